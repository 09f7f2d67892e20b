import PyProof.Rows.All
import Wide.All
import OpenK.AllK
import Wide.FinOn
import HandS.ForMost
import HandS.Wide
import HandS.ForExc
import HandS.Deep
import HandS.Evl
import HandS.Walk
import HandS.Codes
import HandS.Zip
import HandS.Property
import HandS.Defaults
import HandS.TupAny
import HandS.More
import HandS.Lambda
import HandS.SortKw
import KE.SortKeyHeap
import HandS.DictComp
import PySem.Challenge.RW_farreads_k02_systems_refused
import HandS.DeepEq
import HandS.OwnEq
import KE.GoesEnum
import HandS.EndTab
import PyProof.ReprRoads
import HandS.RaiseMore
import PyProof.ReprLen
import HandS.ExcInit
import HandS.IsInst
import KE.KExcIs
import HandS.Exc
import HandS.ExcOwn
import HandS.ExcField
import HandS.ExcIs
import HandS.Sort
import HandS.SortOrd
import HandS.SortRule
import KE.KDictZip
import KE.KIsAll
import HandS.MakeKw
import HandS.TupMul
import PyProof.ListStr
import HandS.HotCalls
import HandS.ExcInitHot
set_option Elab.async false
set_option linter.all false
set_option maxRecDepth 100000
set_option maxHeartbeats 8000000
namespace Fr
open PySem PySem.Spec PyProof.Rows L2
section
variable {K : PySem.W.Frag} {H H' : Hp}
theorem sqt (e : Same H H') {a : Addr} {xs : List V} (h : SqT K H a xs) : SqT K H' a xs := Evl.ex_t e h
theorem sql (e : Same H H') {a : Addr} {xs : List V} (h : SqL K H a xs) : SqL K H' a xs := Evl.ex_l e h
/-- lists, tuples, locked things -/
def dat : HO → Bool
  | .lst _ => true
  | .tup _ => true
  | .frz _ _ => true
  | _ => false
/-- what data is made of stays -/
def SD (H H' : Hp) : Prop := ∀ b o, H b = some o → dat o = true → H' b = some o
theorem SD.of (e : Same H H') : SD H H' := fun b o h _ => e b o h
theorem SD.tr {H'' : Hp} (a : SD H H') (b : SD H' H'') : SD H H'' := fun c o h d => b c o (a c o h d) d
theorem SD.upd {s : Addr} {u o : HO} (e : SD H H') (h : H' s = some u) (n : dat u = false) : SD H (upd H' s o) := fun b x q d => by
  have z := e b x q d
  have ne : b ≠ s := fun y => by
    rw [y, h] at z
    cases z
    rw [n] at d
    cases d
  rw [upd_ne ne]
  exact z
theorem sqtd (e : SD H H') {a : Addr} {xs : List V} (h : SqT K H a xs) : SqT K H' a xs := by
  rcases h with (h | ⟨o, h⟩) | h
  · exact .inl (.inl (e _ _ h rfl))
  · exact .inl (.inr ⟨o, e _ _ h rfl⟩)
  · exact .inr h
theorem sqld (e : SD H H') {a : Addr} {xs : List V} (h : SqL K H a xs) : SqL K H' a xs := by
  rcases h with (h | ⟨o, h⟩) | h
  · exact .inl (.inl (e _ _ h rfl))
  · exact .inl (.inr ⟨o, e _ _ h rfl⟩)
  · exact .inr h
mutual
theorem dpd (e : SD H H') : ∀ (d : PyData) (v : V), Dp K H v d → Dp K H' v d
  | .none, _, h => by cases h; exact .non
  | .bool b, _, h => by cases h; exact .bl b
  | .int i, _, h => by cases h; exact .int i
  | .str x, _, h => by cases h; exact .str x
  | .list ds, _, h => by
    cases h with
    | lst hs ha => exact .lst (sqld e hs) (dpsd e ds _ ha)
  | .tuple ds, _, h => by
    cases h with
    | tup hs ha => exact .tup (sqtd e hs) (dpsd e ds _ ha)
  | .dict _, _, h => by cases h
theorem dpsd (e : SD H H') : ∀ (ds : List PyData) (vs : List V), DpAll K H vs ds → DpAll K H' vs ds
  | [], _, h => by cases h; exact .nil
  | d :: ds, _, h => by
    cases h with
    | cons h1 h2 => exact .cons (dpd e d _ h1) (dpsd e ds _ h2)
end
theorem dpm (e : Same H H') (d : PyData) (v : V) (h : Dp K H v d) : Dp K H' v d := dpd (.of e) d v h
theorem dpsm (e : Same H H') (ds : List PyData) (vs : List V) (h : DpAll K H vs ds) : DpAll K H' vs ds := dpsd (.of e) ds vs h
theorem dps_len : ∀ {ds : List PyData} {vs : List V}, DpAll K H vs ds → vs.length = ds.length
  | [], _, h => by cases h; rfl
  | d :: ds, _, h => by
    cases h with
    | cons h1 h2 => exact congrArg Nat.succ (dps_len h2)
theorem dps_get : ∀ {ds : List PyData} {vs : List V} {i : Nat} {v : V}, DpAll K H vs ds → vs[i]? = some v → ∃ d, ds[i]? = some d ∧ Dp K H v d
  | [], _, _, _, h, e => by cases h; cases e
  | d :: ds, _, 0, v, h, e => by
    cases h with
    | cons h1 h2 => cases e; exact ⟨d, rfl, h1⟩
  | d :: ds, _, i + 1, v, h, e => by
    cases h with
    | cons h1 h2 => exact dps_get (i := i) h2 (by simpa using e)
theorem dps_get' : ∀ {ds : List PyData} {vs : List V} {i : Nat} {d : PyData}, DpAll K H vs ds → ds[i]? = some d → ∃ v, vs[i]? = some v ∧ Dp K H v d
  | [], _, _, _, h, e => by cases e
  | d :: ds, _, 0, v, h, e => by
    cases h with
    | cons h1 h2 => cases e; exact ⟨_, rfl, h1⟩
  | d :: ds, _, i + 1, v, h, e => by
    cases h with
    | cons h1 h2 => simpa using dps_get' (i := i) h2 (by simpa using e)
theorem dps_app : ∀ {ds es : List PyData} {vs us : List V}, DpAll K H vs ds → DpAll K H us es → DpAll K H (vs ++ us) (ds ++ es)
  | [], _, _, _, h, k => by cases h; exact k
  | d :: ds, _, _, _, h, k => by
    cases h with
    | cons h1 h2 => exact .cons h1 (dps_app h2 k)
theorem dps_one {v : V} {d : PyData} (h : Dp K H v d) : DpAll K H [v] [d] := .cons h .nil
theorem dps_snoc {ds : List PyData} {vs : List V} {v : V} {d : PyData} (h : DpAll K H vs ds) (k : Dp K H v d) : DpAll K H (vs ++ [v]) (ds ++ [d]) := dps_app h (dps_one k)
/-- a new object leaves what stands -/
theorem snew {p : Addr} {o : HO} (h : H p = none) : Same H (upd H p o) := fun b x e => by
  rw [upd_ne (ne_of_none e h)]
  exact e
theorem smut {p : Addr} {o : HO} (e : Same H H') (h : H p = none) : Same H (upd H' p o) := fun b x q => by
  rw [upd_ne (ne_of_none q h)]
  exact e b x q
theorem dint {v : V} {i : Int} (h : Dp K H v (.int i)) : v = .int i := by cases h; rfl
theorem dstr {v : V} {x : Str} (h : Dp K H v (.str x)) : v = .str x := by cases h; rfl
theorem dtup {v : V} {ds : List PyData} (h : Dp K H v (.tuple ds)) : ∃ a xs, v = .ref a ∧ SqT K H a xs ∧ DpAll K H xs ds := by
  cases h with
  | tup hs ha => exact ⟨_, _, rfl, hs, ha⟩
theorem dlst {v : V} {ds : List PyData} (h : Dp K H v (.list ds)) : ∃ a xs, v = .ref a ∧ SqL K H a xs ∧ DpAll K H xs ds := by
  cases h with
  | lst hs ha => exact ⟨_, _, rfl, hs, ha⟩
theorem dps_ints : ∀ {ns : List Int} {vs : List V}, DpAll K H vs (ns.map PyData.int) → vs = ns.map V.int
  | [], _, h => by cases h; rfl
  | n :: ns, _, h => by
    cases h with
    | cons h1 h2 => cases h1; rw [dps_ints h2]; rfl
theorem dps3 {a b c : PyData} {vs : List V} (h : DpAll K H vs [a, b, c]) : ∃ x y z, vs = [x, y, z] ∧ Dp K H x a ∧ Dp K H y b ∧ Dp K H z c := by
  cases h with
  | cons h1 h =>
    cases h with
    | cons h2 h =>
      cases h with
      | cons h3 h =>
        cases h
        exact ⟨_, _, _, rfl, h1, h2, h3⟩
theorem dps2 {a b : PyData} {vs : List V} (h : DpAll K H vs [a, b]) : ∃ x y, vs = [x, y] ∧ Dp K H x a ∧ Dp K H y b := by
  cases h with
  | cons h1 h =>
    cases h with
    | cons h2 h =>
      cases h
      exact ⟨_, _, rfl, h1, h2⟩
theorem ints_dps : ∀ (ns : List Int), DpAll K H (ns.map V.int) (ns.map PyData.int)
  | [] => .nil
  | n :: ns => .cons (.int n) (ints_dps ns)
end
/-- ** with a base of any size within the line -/
def CPowW (i j : Int) : Prop := 0 ≤ j ∧ j ≤ 3 ∧ i.natAbs < 2 ^ 1000000
section
variable {X : Cx}
theorem op_powW : OpR X (binaryOp .Pow) (rI CPowW fun i j => .int (i ^ j.toNat)) := opI fun i j _ _ _ _ _ hc q => by
  obtain ⟨h0, h3, hb⟩ := hc
  refine pow_int h0 ?_ q
  have b : Builtin.Int.intBits i ≤ i.natAbs.log2 + 1 := by
    unfold Builtin.Int.intBits
    split <;> omega
  have l : i.natAbs.log2 < 1000000 := PySem.Flt.log2_lt_of (by decide) hb
  have c : (Builtin.Int.intBits i : Int) ≤ 1000000 := by omega
  have c0 : (0 : Int) ≤ (Builtin.Int.intBits i : Int) := Int.natCast_nonneg _
  calc (Builtin.Int.intBits i : Int) * j ≤ 1000000 * 3 := Int.mul_le_mul c h3 h0 (by decide)
    _ ≤ 2 ^ 27 := by decide
end
end Fr

namespace Fr
open PySem PySem.Spec PyProof.Rows L2
theorem same_refl {H : Hp} : Same H H := fun _ _ h => h
theorem same_tr {A B C : Hp} (a : Same A B) (b : Same B C) : Same A C := fun x o h => b x o (a x o h)
theorem yat_same {xs : List V} {i : Nat} {H : Hp} {x : V} {H' : Hp} (y : YAt xs i H x H') : Same H H' := by
  obtain ⟨rfl, _⟩ := y
  exact same_refl
theorem ypair_same {xs ys : Nat → Option V} {i : Nat} {H : Hp} {x : V} {H' : Hp} (y : YPair xs ys i H x H') : Same H H' := by
  obtain ⟨T, _, _, _, n, rfl, _⟩ := y
  exact snew n
theorem free_of {H H' : Hp} {p : Addr} (e : Same H H') (h : H' p = none) : H p = none := Same.free e h
theorem get_range {n i : Nat} (h : i < n) : (List.range n)[i]? = some i := by simp [h]
/-- a comprehension whose elements are told by the turn -/
theorem lc_flat {J : It} {n : Nat} {G : Hp → Prop} {Y : Nat → Hp → V → Hp → Prop} (w : Walk J n G Y) {g : TG} {te : TE} {vs : List Nat} {σ : L2.St} {H1 : Hp} {D : Addr} {Qd : Hp → Prop} (f : Nat → V) (hn : n ≤ 1000000) (hD : H1 D = none) (hG : ∀ H, Same H1 H → G H)
    (hY : ∀ i H x H', Y i H x H' → Same H H')
    (hs : ∀ i x H H', i < n → Same H1 H → Y i H x H' → ∀ R : V → Hp → Prop, (∀ H4, Same H' H4 → R (f i) H4) → g x (wipe σ vs) H' fun σ2 H2 => wipe σ2 vs = wipe σ vs ∧ te σ2 H2 R)
    (hd : ∀ H, Same H1 H → H D = some (.lst ((List.range n).map f)) → Qd H) :
    ∃ W : Nat → Nat → Hp → Prop, (∃ m, W 0 m (upd H1 D (.lst []))) ∧ ∀ i m H, W i m H →
      (J.stop i H ∧ Qd H) ∨ (J.go i H ∧ ∃ Nx : Hp → Prop, (∀ H', Nx H' → ∃ m', m' < m ∧ W (i + 1) m' H') ∧ ∀ x H', J.yld i H x H' → g x (wipe σ vs) H' fun σ2 H2 => wipe σ2 vs = wipe σ vs ∧ tYes σ2 H2 fun b H3 =>
        if b = true then te σ2 H3 fun y H4 => ∃ acc, H4 D = some (.lst acc) ∧ acc.length < sizeLine ∧ Nx (upd H4 D (.lst (acc ++ [y]))) else Nx H3) := by
  refine lc_it w (fun i H => Same H1 H ∧ H D = some (.lst ((List.range i).map f))) ⟨snew hD, upd_same⟩ (fun i H _ p => hG H p.1) (fun i x H H' hi p y => ?_) fun H p => hd H p.1 p.2
  have sm := hY i H x H' y
  refine hs i x H H' hi p.1 y _ fun H4 s4 => ⟨_, s4 _ _ (sm _ _ p.2), ?_, ?_, ?_⟩
  · rw [List.length_map, List.length_range]
    exact Nat.lt_of_lt_of_le (by omega : i < 1000001) (by rw [sizeLine_eq]; decide)
  · exact smut (same_tr p.1 (same_tr sm s4)) hD
  · rw [upd_same, List.range_succ, List.map_append]
    rfl
/-- a property that may be read by its name -/
structure Prp (P : Program) (w : World) (K : PySem.W.Frag) (mg : Str → Option Value) (base : Heap) (k : Nat) (C : Addr) (f : Str) (sp : Sp) : Prop where
  ex : ∃ (p g : Addr) (fd : FuncData) (ps : List Str), Cls K C ∧ PropOf K C f p g ∧ FnOk P w K mg base CX0 k g fd ps sp ∧ Binds K fd ps []
section
variable {X : Cx}
theorem pe_pr {k j : Nat} {C : Addr} {f : Str} {sp : Sp} {e : Expr} {pos : Pos} {ta : TE} (he : PE X e ta) (c : Prp X.prog X.w X.K X.mg X.base k C f sp) (hr : Room j X.A) (hk : k + 1 ≤ j) (hab : attributeBase e f X.env (eval e X.env) = eval e X.env) :
    PE X (.Attribute e f pos) (tProp C sp [] E0 ta) := by
  obtain ⟨p, g, fd, ps, hc, hp, F, hb⟩ := c.ex
  exact pe_prop he hc hp F (hr.mono hk) hb .nil pass0 hab
theorem _root_.L2.Room.units1 {k : Nat} {A : Around} (r : Room k A) : A.units + 65 < cLine := by
  have := r.un
  omega
end
def rTupS (K : PySem.W.Frag) : List V → Hp → VK → Prop := fun xs H Q => ∃ p ys, xs = [.ref p] ∧ ((SqL K H p ys ∧ ∀ l, H l = none → Q (.ref l) (upd H l (.tup ys))) ∨ (SqT K H p ys ∧ Q (.ref p) H))
end Fr

namespace Fr
open PySem PySem.Spec PyProof.Rows L2
theorem vals_each1 {α : Type} : ∀ {bs : List (V × α)} {us : List Value}, Vals (bs.map Prod.fst) us → PySem.W.EachIs (fun (v : Value) (x : V × α) => RelV x.1 v) us bs
  | [], _, h => by cases h; exact .nil
  | b :: bs, _, h => by
    cases h with
    | cons h t => exact .cons h (vals_each1 t)
theorem each_vals1 {α : Type} : ∀ {bs : List (V × α)} {us : List Value}, PySem.W.EachIs (fun (v : Value) (x : V × α) => RelV x.1 v) us bs → Vals (bs.map Prod.fst) us
  | [], _, h => by cases h; exact .nil
  | b :: bs, _, h => by
    cases h with
    | cons h t => exact .cons h (each_vals1 t)
/-- one parameter, nothing captured -/
structure LamP (a : Str) (scope : Scope) : Prop where
  kind : scope.kind = .function
  co : scope.isCoroutine = false
  gen : scope.isGenerator = false
  loc : scope.names.lookup a = some .local
  noc : ∀ y ∈ scope.names, y.2 ≠ .cell
  nof : ∀ y ∈ scope.names, y.2 ≠ .free
section
variable {prog : Program} {w : World} {A : Around} {E : Value → Shared → Prop} {s : Shared}
theorem lam_key0 {a q : Str} {f c' t : Addr} {pm ctv : Value} {params : Arguments} {scope : Scope} {cl : List (Str × Addr)} {p1 p2 p3 : Pos} {kk : Nat} {x : Str} {u : Tok} {items : List Value} (L : LamP a scope) (ha : (a == ("__debug__" : Str)) = false)
    (ho : s.heap.get? f = some (PySem.W.kla_obj "<lambda>" q params (.Subscript (.Name a p1) (.Constant (.int 0) kk p2) p3) scope cl pm c' ctv)) (hcr : s.heap.CodeRec (.ref c') q) (hroom : A.depth < recursionLimit) (hlim : s.heap.NoLimit)
    (hbind : ∀ v, bindArgs (PySem.W.kla_fn "<lambda>" q params (.Subscript (.Name a p1) (.Constant (.int 0) kk p2) p3) scope cl pm (.ref c') ctv) ⟨[v], []⟩ = pure [(a, v)]) (ht : IsTup s.heap t (Value.str x u :: items).toArray) :
    wpAny (model prog w) A (call (.ref f) [.ref t]) (PySem.W.KeyPure (.str x) s) E s := by
  refine wpAny_call (PySem.W.kla_callFunE hroom ho rfl L.co L.gen rfl hcr ?_)
  rw [hbind]
  refine wpAny_pure (wpAny_newFunctionEnv (fun y hy => L.noc y hy) (fun y hy => ?_) (fun h₁ hns hsb => ⟨hlim.fresh _ hsb, ?_⟩) L.kind)
  · have e : y = (a, Value.ref t) := by simpa using hy
    rw [e]
    exact L.loc
  · have kp : ∀ b o, s.heap.get? b = some o → h₁.get? b = some o := fun b o e => hsb.extBut b o (Nat.ne_of_lt (Heap.lt_size e)) (Heap.get?_push_of_some _ e)
    refine PySem.W.kla_codeExpr (Subscript_ (wpAny_Name (wpAny_loadName_local (v := .ref t) L.kind L.loc hns ?_ ?_) ha))
    · show List.lookup a ([(a, Value.ref t)] : List (Str × Value)) = _
      simp [List.lookup]
    · refine wpAny_Constant_int ?_
      refine item_tupleL (j := 0) (x := .str x u) (l := Value.str x u :: items) ?_ (by decide) (by decide) ?_ rfl ?_
      · obtain ⟨o, h1, h2, n, h3⟩ := ht
        exact ⟨o, kp _ _ h1, h2, n, h3⟩
      · show (if (decide ((0 : Int) ≤ (if (0 : Int) < 0 then 0 + ((Value.str x u :: items).length : Int) else 0)) && decide ((if (0 : Int) < 0 then 0 + ((Value.str x u :: items).length : Int) else 0) < ((Value.str x u :: items).length : Int))) = true then some (if (0 : Int) < 0 then 0 + ((Value.str x u :: items).length : Int) else 0).toNat else none) = some 0
        rw [if_neg (by decide : ¬ (0 : Int) < 0)]
        have h : (0 : Int) < ((Value.str x u :: items).length : Int) := by
          rw [List.length_cons]
          omega
        rw [decide_eq_true (Int.le_refl 0), decide_eq_true h]
        rfl
      · exact ⟨h₁, _, rfl, kp, PySem.Reads.str x u⟩
end
/-- by the first text, from the least on -/
def leK {β : Type} (k : β → Str) : β → β → Bool := fun a b => decide ((k a).cps.toList ≤ (k b).cps.toList)
def oneV (R : VK) : List V → Hp → Prop
  | [v], H => R v H
  | _, _ => False
theorem oneV_of {R : VK} {vs : List V} {H : Hp} (h : oneV R vs H) : ∃ v, vs = [v] ∧ R v H := by
  match vs, h with
  | [v], h => exact ⟨v, rfl, h⟩
def tSortKey {α : Type} (kf : α → Str) (K : PySem.W.Frag) (T : List (Addr × Str)) (te : TE) : TE := fun σ H Q => te σ H fun v H1 => ∃ (a : Addr) (bs : List (V × α)), v = .ref a ∧ SqL K H1 a (bs.map Prod.fst) ∧ LamX.Tabs T H1 ∧
  (∀ y ∈ bs, ∃ t zs, y.1 = .ref t ∧ SqT K H1 t (.str (kf y.2) :: zs)) ∧ ∀ H2, LamX.ExtN H1 H2 → LamX.Tabs T H2 → ∀ p, H2 p = none → Q (.ref p) (upd H2 p (.lst ((bs.mergeSort (leK fun y => kf y.2)).map Prod.fst)))
theorem same_of_ext {B H1 H2 : Hp} (e : Same B H1) (n : ∀ b ps, B b ≠ some (.tbl ps)) (x : LamX.ExtN H1 H2) : Same B H2 := fun b o h => x b o (e b o h) fun ps z => n b ps (by rw [h, z])
theorem sqt_ext {K : PySem.W.Frag} {H1 H2 : Hp} {a : Addr} {xs : List V} (x : LamX.ExtN H1 H2) (h : SqT K H1 a xs) : SqT K H2 a xs := by
  rcases h with (h | ⟨o, h⟩) | h
  · exact .inl (.inl (x _ _ h fun ps z => by cases z))
  · exact .inl (.inr ⟨o, x _ _ h fun ps z => by cases z⟩)
  · exact .inr h
theorem sql_ext {K : PySem.W.Frag} {H1 H2 : Hp} {a : Addr} {xs : List V} (x : LamX.ExtN H1 H2) (h : SqL K H1 a xs) : SqL K H2 a xs := by
  rcases h with (h | ⟨o, h⟩) | h
  · exact .inl (.inl (x _ _ h fun ps z => by cases z))
  · exact .inl (.inr ⟨o, x _ _ h fun ps z => by cases z⟩)
  · exact .inr h
section
variable {X : Cx}
theorem pe_sortKey {α : Type} (kf : α → Str) {T : List (Addr × Str)} {c P : Addr} {k : Nat} {a : Str} {e : Expr} {params : Arguments} {scope : Scope} {p p1 p2 p3 lpos kpos pos : Pos} {kk : Nat} {te : TE} (hg : Gl X "sorted") (hm : X.mg "sorted" = none) (ha : PE X e te) (hr : Room (k + 1) X.A)
    (TB : LamX.TabB X.base X.mg c P) (hcode : X.env.code = .ref c) (hmT : (P, X.env.qual ++ "<lambda>") ∈ T) (hu : ∀ p ∈ T, p.1 = P → p.2 = X.env.qual ++ "<lambda>") (hdef : defaultsOf params X.env = ([], [])) (L : LamP a scope) (hda : (a == ("__debug__" : Str)) = false)
    (hbind : ∀ (q : Str) (cl : List (Str × Addr)) (pm cv ctv v : Value), bindArgs (PySem.W.kla_fn "<lambda>" q params (.Subscript (.Name a p1) (.Constant (.int 0) kk p2) p3) scope cl pm cv ctv) ⟨[v], []⟩ = pure [(a, v)])
    (he : backTo pos (starEach [e] X.env) = (false, eval e X.env) :: backTo pos (starEach [] X.env) := by rfl) (hpl : (backTo pos (starEach [e] X.env)).any Prod.fst = false := by rfl) (hes : starEach (e :: []) X.env = (false, eval e X.env) :: starEach [] X.env := by rfl) :
    PE X (.Call (.Name "sorted" p) [e] [⟨some "key", .Lambda params (.Subscript (.Name a p1) (.Constant (.int 0) kk p2) p3) scope lpos, kpos⟩] pos) (tSortKey kf X.K T te) := by
  refine ⟨fun pins s σ H Q I h => ?_⟩
  refine wpAny_Call_Name_kw (ld_blt I hg hm PyProof.Rows.boot_sorted ?_)
  refine PyProof.Rows.callWith_kw (thn ((pa_cons ha pa_nil hes).run pos pins s σ H (oneV fun v H1 => ∃ (a : Addr) (bs : List (V × α)), v = .ref a ∧ SqL X.K H1 a (bs.map Prod.fst) ∧ LamX.Tabs T H1 ∧
    (∀ y ∈ bs, ∃ t zs, y.1 = .ref t ∧ SqT X.K H1 t (.str (kf y.2) :: zs)) ∧ ∀ H2, LamX.ExtN H1 H2 → LamX.Tabs T H2 → ∀ p, H2 p = none → Q (.ref p) (upd H2 p (.lst ((bs.mergeSort (leK fun y => kf y.2)).map Prod.fst)))) I h) fun us s1 hh => ?_) he hpl (by rfl) (by rfl)
  · obtain ⟨vs, H1, I1, r1, hh⟩ := hh
    obtain ⟨v, rfl, hh⟩ := oneV_of hh
    obtain ⟨b, bs, rfl, hS, hT, hK, q⟩ := hh
    obtain ⟨u, rfl, hu1⟩ := r1.one
    obtain rfl : u = Value.ref b := hu1
    show wpAny _ _ (evalAll ((do let v ← eval (.Lambda params (.Subscript (.Name a p1) (.Constant (.int 0) kk p2) p3) scope lpos) X.env; standAt pos; pure v) :: [])) _ _ s1
    refine wpAny_evalAll_cons (wpAny_bind (LamX.lam_make2 I1 TB hcode hmT hu hT hdef (fun y hy e => absurd e (L.nof y hy)) fun f c' pm ctv H2 s2 I2 xN hT2 hf hfn hfr hco => wpAny_bind (wpAny_standAt (wpAny_pure (wpAny_evalAll_nil ?_)))))
    show wpAny _ _ (call (.builtin "sorted") [.ref b] [(Str.ofString "key", .ref f)]) _ _ s2
    have hS2 := sql_ext xN hS
    obtain ⟨its, rv, hl, hz⟩ := I2.list hS2
    obtain ⟨⟨oc, vsc, tc, hoc, hdc, hvc⟩, _, _⟩ := I2.hok c' _ hco
    have hcr : s2.heap.CodeRec (.ref c') (X.env.qual ++ "<lambda>") := ⟨c', oc, vsc, tc, rfl, hoc, hdc, hvc⟩
    refine PySem.W.sorted_key_data (β := V × α) (vs := its) (bs := bs) (R := fun v x => RelV x.1 v) (b := false) (fun y => PyData.str (kf y.2)) hl.isList (vals_each1 rv) ?_ ?_ ?_ ?_ (PyProof.Rows.ksk_s1 _ _) (fun _ => PyProof.Rows.ksk_l1 _ _) (fun x => PyProof.Rows.ksk_t1 f x) ?_ ?_
    · intro d hd d' hd'
      obtain ⟨y, _, rfl⟩ := List.mem_map.mp hd
      obtain ⟨y', _, rfl⟩ := List.mem_map.mp hd'
      rfl
    · refine Or.inr fun d hd => ?_
      obtain ⟨y, _, rfl⟩ := List.mem_map.mp hd
      constructor
      · intro z
        cases z
      · intro xs z
        cases z
    · rw [List.length_map] at hz
      exact hz
    · intro y hy
      have := hr.un
      show X.A.units + 2 + PyData.depth (.str (kf y.2)) < cLine
      have e : PyData.depth (.str (kf y.2)) ≤ 1 := by simp [PyData.depth]
      omega
    · intro v y hv hy h tk kp
      obtain ⟨t, zs, ey, ht⟩ := hK y hy
      rw [ey] at hv
      obtain rfl : v = Value.ref t := hv
      obtain ⟨jts, rj, hjt, _⟩ := I2.tuple (sqt_ext xN ht)
      cases rj with
      | @cons _ u0 _ js r0 rr =>
        obtain ⟨t0, rfl⟩ := r0
        obtain ⟨o, h1, h2, n, h3⟩ := hjt
        refine lam_key0 (s := { s2 with heap := h, toks := tk }) (A := X.A.in1.in1) (u := t0) (items := js) L hda (kp _ _ hf) ⟨c', oc, vsc, tc, rfl, kp _ _ hoc, hdc, hvc⟩ ?_ (I2.nolimit.keeps kp) (fun v => hbind _ _ _ _ _ v) ⟨o, kp _ _ h1, h2, n, h3⟩
        have := hr.dp
        show X.A.depth < recursionLimit
        omega
    · intro out cc h' tk kp fresh hD hlen' hE
      have hv := each_vals1 hE
      have hle : PySem.W.dataLe false (fun y : V × α => PyData.str (kf y.2)) = leK fun y => kf y.2 := PySem.W.dataLe_str _
      rw [hle] at hv
      have hl2 : ((bs.mergeSort (leK fun y => kf y.2)).map Prod.fst).length ≤ sizeLine := by
        rw [List.length_map, List.length_mergeSort]
        rw [List.length_map] at hz
        exact hz
      exact ⟨.ref _, upd H2 (s2.heap.objs.size + 1) (.lst ((bs.mergeSort (leK fun y => kf y.2)).map Prod.fst)), I2.laid (t' := tk) kp (Nat.le_succ _) ⟨hl2, out, cc, hv, hD⟩, rfl, q H2 xN hT2 _ (I2.hok.fresh (Nat.le_succ _))⟩
end
/-- a dict comprehension over a walk -/
theorem dc_it {J : It} {n : Nat} {G : Hp → Prop} {Y : Nat → Hp → V → Hp → Prop} (w : Walk J n G Y) {g : TG} {tt : TT} {tk tv : TE} {vs : List Nat} {σ : L2.St} {H1 : Hp} {D : Addr} {Qd : Hp → Prop} (Pv : Nat → Hp → Prop) (h0 : Pv 0 (upd H1 D (.dK []))) (hG : ∀ i H, i ≤ n → Pv i H → G H)
    (hs : ∀ i x H H', i < n → Pv i H → Y i H x H' → g x (wipe σ vs) H' fun σ2 H2 => wipe σ2 vs = wipe σ vs ∧ tt σ2 H2 fun b H3 =>
      if b = true then tk σ2 H3 fun y H4 => tv σ2 H4 fun z H5 => ∃ kvs k, y = kV k ∧ H5 D = some (.dK kvs) ∧ kvs.length < sizeLine ∧ Pv (i + 1) (upd H5 D (.dK (putK kvs k z))) else Pv (i + 1) H3) (hd : ∀ H, Pv n H → Qd H) :
    ∃ W : Nat → Nat → Hp → Prop, (∃ m, W 0 m (upd H1 D (.dK []))) ∧ ∀ i m H, W i m H →
      (J.stop i H ∧ Qd H) ∨ (J.go i H ∧ ∃ Nx : Hp → Prop, (∀ H', Nx H' → ∃ m', m' < m ∧ W (i + 1) m' H') ∧ ∀ x H', J.yld i H x H' → g x (wipe σ vs) H' fun σ2 H2 => wipe σ2 vs = wipe σ vs ∧ tt σ2 H2 fun b H3 =>
        if b = true then tk σ2 H3 fun y H4 => tv σ2 H4 fun z H5 => ∃ kvs k, y = kV k ∧ H5 D = some (.dK kvs) ∧ kvs.length < sizeLine ∧ Nx (upd H5 D (.dK (putK kvs k z))) else Nx H3) := by
  refine ⟨fun i m H => m = n - i ∧ i ≤ n ∧ Pv i H, ⟨n, by simp, Nat.zero_le _, h0⟩, ?_⟩
  rintro i m H ⟨rfl, hi, p⟩
  have q := hG i H hi p
  by_cases hlt : i < n
  · exact .inr ⟨w.goes i H hlt q, Pv (i + 1), fun H' p' => ⟨n - (i + 1), by omega, rfl, hlt, p'⟩, fun x H' y => hs i x H H' hlt p (w.yields i H x H' hlt q y)⟩
  · have e : i = n := by omega
    subst e
    exact .inl ⟨w.stops H q, hd H p⟩
theorem SD.ext {H H' : Hp} (x : LamX.ExtN H H') : SD H H' := fun b o h d => x b o h fun ps z => by
  rw [z] at d
  cases d
theorem tabs_upd {T : List (Addr × Str)} {H : Hp} {s : Addr} {u o : HO} (hT : LamX.Tabs T H) (h : H s = some u) (n1 : ∀ ps, u ≠ .tbl ps) (n2 : ∀ c q, u ≠ LamX.CodeO c q) : LamX.Tabs T (upd H s o) := by
  intro p hp
  obtain ⟨ps, h1, h2, h3⟩ := hT p hp
  refine ⟨ps, ?_, h2, fun pos cv hc => ?_⟩
  · rw [upd_ne fun z => by
      rw [z, h] at h1
      exact n1 _ (Option.some.inj h1)]
    exact h1
  · obtain ⟨c, e1, e2⟩ := h3 pos cv hc
    refine ⟨c, e1, ?_⟩
    rw [upd_ne fun z => by
      rw [z, h] at e2
      exact n2 _ _ (Option.some.inj e2)]
    exact e2
theorem tabs_ins {T : List (Addr × Str)} {H : Hp} {s C dx : Addr} {fs : List (Str × V)} {o : HO} (hT : LamX.Tabs T H) (h : H s = some (.ins C dx fs)) : LamX.Tabs T (upd H s o) := tabs_upd hT h (fun ps z => by cases z) (fun c q z => by unfold LamX.CodeO at z; cases z)
theorem tabs_lst {T : List (Addr × Str)} {H : Hp} {s : Addr} {xs : List V} {o : HO} (hT : LamX.Tabs T H) (h : H s = some (.lst xs)) : LamX.Tabs T (upd H s o) := tabs_upd hT h (fun ps z => by cases z) (fun c q z => by unfold LamX.CodeO at z; cases z)
end Fr

namespace Fr
open PySem PySem.Spec PyProof.Rows L2
section
variable {prog : Program} {w : World} {A : Around} {E : Value → Shared → Prop} {s : Shared}
theorem min_intTup {l : Addr} {xs : Array (Int × Tok)} {Q : Value → Shared → Prop} (hh : A.handled = none) (hl : s.heap.IsTuple l (intItems xs)) (hne : 0 < xs.size)
    (h : ∀ v h' tk, (intItems xs)[argBest (fun i j => decide (numAt xs i < numAt xs j)) (xs.size - 1)]? = some v → (∀ b o, s.heap.get? b = some o → h'.get? b = some o) → Q v { s with heap := h', toks := tk }) :
    wpAny (model prog w) A (call (.builtin "min") [.ref l]) Q E s := by
  refine call_min_walk (wpAny_pyIter_tuple hl ?_)
  obtain ⟨o, ho, hc, n, hd⟩ := hl
  have hlt : l < s.heap.objs.size := Heap.lt_size ho
  refine ⟨_, [_, l], [_], _, _, _, _, rfl, Walks.tuple (A := A.in1) hh _ l (Nat.ne_of_lt hlt) (intItems xs), ⟨⟨_, Heap.get?_push_size _ rfl, rfl, rfl⟩, ⟨o, Heap.get?_push_of_some _ ho, hc, n, hd⟩⟩, fun d hdm => ?_, by simpa [intItems] using hne, CmpOf.ints_lt (numAt xs) (fun _ _ => intItems_at), fun v h' tk hP hk => ?_⟩
  · show d < (s.heap.push _).objs.size
    rw [Heap.size_push]
    rcases List.mem_cons.mp hdm with rfl | hdm
    · exact Nat.lt_succ_self _
    · rcases List.mem_cons.mp hdm with rfl | hdm
      · exact Nat.lt_succ_of_lt hlt
      · cases hdm
  · refine h v h' tk (by simpa [intItems] using hP) fun d o e => hk d o (fun hm => ?_) (Heap.get?_push_of_some _ e)
    rcases List.mem_cons.mp hm with e1 | hm
    · have := Heap.lt_size e
      rw [e1] at this
      exact Nat.lt_irrefl _ this
    · cases hm
end
def rMinT (K : PySem.W.Frag) : List V → Hp → VK → Prop := fun vs H Q => ∃ (a : Addr) (ns : List Int), vs = [V.ref a] ∧ SqT K H a (ns.map V.int) ∧ 0 < ns.length ∧ ∀ m, m ∈ ns → (∀ y, y ∈ ns → m ≤ y) → Q (.int m) H
theorem cr_minT {X : Cx} (hc : X.calm = true) : CallR X (.builtin "min") (rMinT X.K) := by
  intro pins s σ H vs us Q I r h
  obtain ⟨a, ns, rfl, hs, hne, q⟩ := h
  obtain ⟨its, rv, hl, _⟩ := I.tuple hs
  rw [Vals.ref1 r]
  obtain ⟨xs, e⟩ := rv.ints.allInts.items
  have hn : numsOf (intItems xs).toList = ns := by rw [← e]; exact rv.ints.numsOf
  rw [nums_intItems] at hn
  subst hn
  rw [e] at hl
  have hsz : 0 < xs.size := by simpa using hne
  refine min_intTup (I.ok.hd hc) hl hsz fun v h' tk hv hk => ?_
  obtain ⟨t, rfl⟩ := intItems_at hv
  obtain ⟨h1, h2⟩ := argBest_lt (numAt xs) (xs.size - 1)
  refine ⟨.int _, H, I.kept hk, ⟨_, rfl⟩, q _ ?_ fun a ha => ?_⟩
  · rw [numAt_eq]; exact PySem.getD_mem (by rw [List.length_map, Array.length_toList]; omega)
  · obtain ⟨j, hj, rfl⟩ := mem_getD ha
    rw [List.length_map, Array.length_toList] at hj
    rw [← numAt_eq]; exact h2 j (by omega)
theorem sgrow {B H : Hp} {p : Addr} {o : HO} (e : Same B H) : Same (upd B p o) (upd H p o) := fun c u h => by
  by_cases hc : c = p
  · rw [hc, upd_same] at h ⊢
    exact h
  · rw [upd_ne hc] at h ⊢
    exact e c u h
/-- an object that the base does not know may change -/
theorem swrite {B H : Hp} {p : Addr} {o : HO} (e : Same B H) (n : B p = none) : Same B (upd H p o) := fun c u h => by
  rw [upd_ne (ne_of_none h n)]
  exact e c u h
theorem walk_zipT {K : PySem.W.Frag} {a b : Addr} {xs ys : List V} {n : Nat} (hn : n = min xs.length ys.length) : Walk (RZ.ItzT K a b) n (fun H => SqT K H a xs ∧ SqT K H b ys) (YPair (fun i => xs[i]?) (fun i => ys[i]?)) := by
  subst hn
  refine ⟨fun i _ hi q => ?_, fun _ q => ⟨xs, ys, q.1, q.2, by omega⟩, fun i H v H' _ q y => ?_⟩
  · have h1 : i < xs.length := by omega
    have h2 : i < ys.length := by omega
    exact ⟨xs, ys, xs[i], ys[i], q.1, q.2, by simp [h1], by simp [h2]⟩
  · obtain ⟨T, x, z, h1, h2, h3, h4, h5⟩ := y
    exact ⟨T, x, z, h1, h2, h3, h4 xs q.1, h5 ys q.2⟩
theorem range_map_get' {α : Type} (xs : List α) (f : Nat → α) (h : ∀ i x, xs[i]? = some x → f i = x) : (List.range xs.length).map f = xs := by
  refine List.ext_getElem? fun i => ?_
  by_cases hi : i < xs.length
  · rw [List.getElem?_map, get_range hi, List.getElem?_eq_getElem hi]
    exact congrArg some (h i _ (List.getElem?_eq_getElem hi))
  · rw [List.getElem?_eq_none (by simp; omega), List.getElem?_eq_none (by omega)]
/-- p - v -/
def minus (p v : List Int) : List Int := List.zipWith (fun a b => a - b) p v
theorem minus_at {p v : List Int} {i : Nat} {a b : Int} (h1 : p[i]? = some a) (h2 : v[i]? = some b) : (minus p v).getD i 0 = a - b := by
  unfold minus
  rw [List.getD_eq_getElem?_getD, List.getElem?_zipWith, h1, h2]
  rfl
theorem minus_range (p v : List Int) : (List.range (min p.length v.length)).map (fun i => V.int ((minus p v).getD i 0)) = (minus p v).map V.int := by
  have := range_map_get' ((minus p v).map V.int) (fun i => V.int ((minus p v).getD i 0)) (fun i b hb => by
    rw [List.getElem?_map] at hb
    obtain ⟨c, h1, h2⟩ := Option.map_eq_some_iff.mp hb
    rw [List.getD_eq_getElem?_getD, h1]
    exact h2)
  rw [List.length_map] at this
  unfold minus at this ⊢
  rw [List.length_zipWith] at this
  exact this
end Fr

namespace Fr
open PySem PySem.Spec PyProof.Rows L2
def topS (i : Nat) : Stmt := PySem.Challenge.pw_farreads_k02_systems_refused.main.body.getD i (.Pass ⟨0, 0, 0, 0⟩)
abbrev s_is_name : Stmt := topS 20
theorem sc_is_name : FnScope ["text", "letter"] ["text"] (defScope s_is_name) := ⟨rfl, rfl, rfl, by decide +kernel, rfl, by decide +kernel, by decide +kernel⟩
-- slots: 0 text, 1 letter
abbrev s_is_read : Stmt := topS 21
theorem sc_is_read : FnScope ["read", "dimensions", "table", "vector", "factor"] ["read", "dimensions"] (defScope s_is_read) := ⟨rfl, rfl, rfl, by decide +kernel, rfl, by decide +kernel, by decide +kernel⟩
-- slots: 0 read, 1 dimensions, 2 table, 3 vector, 4 factor
abbrev s_System_dimensions : Stmt := inClass (topS 27) 3
theorem sc_System_dimensions : FnScope ["self"] ["self"] (defScope s_System_dimensions) := ⟨rfl, rfl, rfl, by decide +kernel, rfl, by decide +kernel, by decide +kernel⟩
-- slots: 0 self
abbrev s_System_modulus : Stmt := inClass (topS 27) 4
theorem sc_System_modulus : FnScope ["self"] ["self"] (defScope s_System_modulus) := ⟨rfl, rfl, rfl, by decide +kernel, rfl, by decide +kernel, by decide +kernel⟩
-- slots: 0 self
abbrev s_System_names : Stmt := inClass (topS 27) 5
theorem sc_System_names : FnScope ["self"] ["self"] (defScope s_System_names) := ⟨rfl, rfl, rfl, by decide +kernel, rfl, by decide +kernel, by decide +kernel⟩
-- slots: 0 self
abbrev s_check_table : Stmt := topS 25
theorem sc_check_table : FnScope ["system", "name"] ["system", "name"] (defScope s_check_table) := ⟨rfl, rfl, rfl, by decide +kernel, rfl, by decide +kernel, by decide +kernel⟩
-- slots: 0 system, 1 name
abbrev s_System_reads : Stmt := inClass (topS 27) 7
theorem sc_System_reads : FnScope ["self", "name"] ["self", "name"] (defScope s_System_reads) := ⟨rfl, rfl, rfl, by decide +kernel, rfl, by decide +kernel, by decide +kernel⟩
-- slots: 0 self, 1 name
abbrev s_check_tables : Stmt := topS 23
theorem sc_check_tables : FnScope ["dimensions", "tables", "names", "table", "many", "row", "name", "_", "reads", "read"] ["dimensions", "tables"] (defScope s_check_tables) := ⟨rfl, rfl, rfl, by decide +kernel, rfl, by decide +kernel, by decide +kernel⟩
-- slots: 0 dimensions, 1 tables, 2 names, 3 table, 4 many, 5 row, 6 name, 7 _, 8 reads, 9 read
abbrev s_check_tables_that_are_read : Stmt := topS 24
theorem sc_check_tables_that_are_read : FnScope ["tables", "names", "table", "row", "read"] ["tables"] (defScope s_check_tables_that_are_read) := ⟨rfl, rfl, rfl, by decide +kernel, rfl, by decide +kernel, by decide +kernel⟩
-- slots: 0 tables, 1 names, 2 table, 3 row, 4 read
abbrev s_check_system : Stmt := topS 22
theorem sc_check_system : FnScope ["dimensions", "tables", "modulus"] ["dimensions", "tables", "modulus"] (defScope s_check_system) := ⟨rfl, rfl, rfl, by decide +kernel, rfl, by decide +kernel, by decide +kernel⟩
-- slots: 0 dimensions, 1 tables, 2 modulus
abbrev s_System_init : Stmt := inClass (topS 27) 0
theorem sc_System_init : FnScope ["self", "dimensions", "tables", "modulus", "rows", "name", "constant", "reads"] ["self", "dimensions", "tables", "modulus"] (defScope s_System_init) := ⟨rfl, rfl, rfl, by decide +kernel, rfl, by decide +kernel, by decide +kernel⟩
-- slots: 0 self, 1 dimensions, 2 tables, 3 modulus, 4 rows, 5 name, 6 constant, 7 reads
structure Rd1 where
  t : Str
  v : List Int
  f : Int
structure Tb where
  n : Str
  c : Int
  rs : List Rd1
def Rd1.d (r : Rd1) : PyData := .tuple [.str r.t, .tuple (r.v.map .int), .int r.f]
/-- as a caller hands it in: the reads in a list -/
def Tb.d (t : Tb) : PyData := .tuple [.str t.n, .int t.c, .list (t.rs.map Rd1.d)]
/-- as a system keeps it -/
def Tb.k (t : Tb) : PyData := .tuple [.int t.c, .tuple (t.rs.map Rd1.d)]
def flds (d m : Int) (t : Addr) : List (Str × V) := putF "_tables" (.ref t) (putF "_modulus" (.int m) (putF "_dimensions" (.int d) []))
theorem nDM : ¬ (("_dimensions" : Str) = "_modulus") := by decide +kernel
theorem nDT : ¬ (("_dimensions" : Str) = "_tables") := by decide +kernel
theorem nMT : ¬ (("_modulus" : Str) = "_tables") := by decide +kernel
theorem flds_d (d m : Int) (t : Addr) : (flds d m t).lookup ("_dimensions" : Str) = some (.int d) := by
  unfold flds
  rw [lookup_putF, if_neg nDT, lookup_putF, if_neg nDM, lookup_putF, if_pos rfl]
theorem flds_m (d m : Int) (t : Addr) : (flds d m t).lookup ("_modulus" : Str) = some (.int m) := by
  unfold flds
  rw [lookup_putF, if_neg nMT, lookup_putF, if_pos rfl]
theorem flds_t (d m : Int) (t : Addr) : (flds d m t).lookup ("_tables" : Str) = some (.ref t) := by
  unfold flds
  rw [lookup_putF, if_pos rfl]
theorem flds_no (d m : Int) (t : Addr) {x : Str} (h1 : ¬ x = "_dimensions") (h2 : ¬ x = "_modulus") (h3 : ¬ x = "_tables") : (flds d m t).lookup x = none := by
  unfold flds
  rw [lookup_putF, if_neg h3, lookup_putF, if_neg h2, lookup_putF, if_neg h1]
  rfl
def KvAt (K : PySem.W.Frag) (H : Hp) (kvs : List (Key × V)) (ts : List Tb) : Prop := Paired (fun (kv : Key × V) (t : Tb) => kv.1 = Sum.inr t.n ∧ Dp K H kv.2 t.k) kvs ts
theorem KvAt.mono {K : PySem.W.Frag} {H H' : Hp} (e : Same H H') : ∀ {kvs : List (Key × V)} {ts : List Tb}, KvAt K H kvs ts → KvAt K H' kvs ts
  | [], _, h => by cases h; exact .nil
  | kv :: kvs, _, h => by
    cases h with
    | cons h1 h2 => exact .cons ⟨h1.1, dpm e _ _ h1.2⟩ (KvAt.mono e h2)
theorem KvAt.monoD {K : PySem.W.Frag} {H H' : Hp} (e : SD H H') : ∀ {kvs : List (Key × V)} {ts : List Tb}, KvAt K H kvs ts → KvAt K H' kvs ts
  | [], _, h => by cases h; exact .nil
  | kv :: kvs, _, h => by
    cases h with
    | cons h1 h2 => exact .cons ⟨h1.1, dpd e _ _ h1.2⟩ (KvAt.monoD e h2)
theorem KvAt.app {K : PySem.W.Frag} {H : Hp} : ∀ {kvs ls : List (Key × V)} {ts us : List Tb}, KvAt K H kvs ts → KvAt K H ls us → KvAt K H (kvs ++ ls) (ts ++ us)
  | [], _, _, _, h, k => by cases h; exact k
  | kv :: kvs, _, _, _, h, k => by
    cases h with
    | cons h1 h2 => exact .cons h1 (KvAt.app h2 k)
theorem KvAt.noVal {K : PySem.W.Frag} {H : Hp} {x : Str} : ∀ {kvs : List (Key × V)} {ts : List Tb}, KvAt K H kvs ts → x ∉ ts.map (·.n) → valV kvs (Sum.inr x) = none
  | [], _, h, e => by cases h; rfl
  | (k, v) :: kvs, _, h, e => by
    cases h with
    | @cons _ t' _ ts' h1 h2 =>
      have h1' : k = Sum.inr t'.n := h1.1
      have hx : ¬ t'.n = x := fun z => e (by rw [← z]; exact List.mem_cons_self)
      have e2 := KvAt.noVal (x := x) h2 fun z => e (List.mem_cons_of_mem _ z)
      unfold valV at e2 ⊢
      rw [List.find?_cons_of_neg (by simp [h1', hx])]
      exact e2
theorem KvAt.len {K : PySem.W.Frag} {H : Hp} {kvs : List (Key × V)} {ts : List Tb} (h : KvAt K H kvs ts) : kvs.length = ts.length := Paired.length h
theorem KvAt.keys {K : PySem.W.Frag} {H : Hp} : ∀ {kvs : List (Key × V)} {ts : List Tb}, KvAt K H kvs ts → kvs.map (fun kv => kV kv.1) = ts.map fun t => V.str t.n
  | [], _, h => by cases h; rfl
  | kv :: kvs, _, h => by
    cases h with
    | cons h1 h2 =>
      rw [List.map_cons, List.map_cons, KvAt.keys h2, h1.1]
      rfl
theorem KvAt.get {K : PySem.W.Frag} {H : Hp} {x : Str} : ∀ {kvs : List (Key × V)} {ts : List Tb}, KvAt K H kvs ts → ∀ {t : Tb}, ts.find? (fun t => decide (t.n = x)) = some t → ∃ v, valV kvs (Sum.inr x) = some v ∧ Dp K H v t.k
  | [], _, h, t, e => by cases h; cases e
  | (k, v) :: kvs, _, h, t, e => by
    cases h with
    | @cons _ t' _ ts' h1 h2 =>
      obtain ⟨h1, h3⟩ := h1
      have h1 : k = Sum.inr t'.n := h1
      by_cases hx : t'.n = x
      · rw [List.find?_cons_of_pos (by simpa using hx)] at e
        cases e
        refine ⟨v, ?_, h3⟩
        unfold valV
        rw [List.find?_cons_of_pos (by simp [h1, hx])]
        rfl
      · rw [List.find?_cons_of_neg (by simpa using hx)] at e
        obtain ⟨v', e1, e2⟩ := KvAt.get h2 e
        refine ⟨v', ?_, e2⟩
        unfold valV at e1 ⊢
        rw [List.find?_cons_of_neg (by simp [h1, hx])]
        exact e1
structure SysAt (K : PySem.W.Frag) (C : Addr) (H : Hp) (s : Addr) (d m : Int) (ts : List Tb) : Prop where
  ob : ∃ (dx t : Addr) (kvs : List (Key × V)), H s = some (.ins C dx (flds d m t)) ∧ H t = some (.dK kvs) ∧ KvAt K H kvs ts
theorem SysAt.mono {K : PySem.W.Frag} {C : Addr} {H H' : Hp} {s : Addr} {d m : Int} {ts : List Tb} (e : Same H H') (h : SysAt K C H s d m ts) : SysAt K C H' s d m ts := by
  obtain ⟨dx, t, kvs, h1, h2, h3⟩ := h.ob
  exact ⟨dx, t, kvs, e _ _ h1, e _ _ h2, h3.mono e⟩
structure TxtC (K : PySem.W.Frag) (mg : Str → Option Value) (C : Addr) : Prop where
  cl : Cls K C
  nD : NoAttr K C "_dimensions"
  nM : NoAttr K C "_modulus"
  nT : NoAttr K C "_tables"
  g_System : mg "System" = some (.ref C)
def okSign (c : Nat) : Bool := !decide ([c] < [97]) && !decide ([122] < [c])
def isName (x : Str) : Bool := decide (1 ≤ (x.length : Int)) && decide ((x.length : Int) ≤ 8) && x.cps.toList.all okSign
structure Txt (mg : Str → Option Value) : Prop where
  b_len : mg "len" = none
  b_all : mg "all" = none
  b_min : mg "min" = none
  b_abs : mg "abs" = none
  b_int : mg "int" = none
  b_list : mg "list" = none
  b_tuple : mg "tuple" = none
  b_range : mg "range" = none
  b_zip : mg "zip" = none
  b_enumerate : mg "enumerate" = none
  b_sorted : mg "sorted" = none
  g_MOST_DIMENSIONS : ∃ u, mg "MOST_DIMENSIONS" = some u ∧ RelV (.int 3) u
  g_MOST_TABLES : ∃ u, mg "MOST_TABLES" = some u ∧ RelV (.int 6) u
  g_MOST_READS : ∃ u, mg "MOST_READS" = some u ∧ RelV (.int 12) u
  g_MOST_LETTERS : ∃ u, mg "MOST_LETTERS" = some u ∧ RelV (.int 8) u
theorem range_map_get {α : Type} (xs : List α) (f : Nat → α) (h : ∀ i x, xs[i]? = some x → f i = x) : (List.range xs.length).map f = xs := by
  refine List.ext_getElem? fun i => ?_
  by_cases hi : i < xs.length
  · rw [List.getElem?_map, get_range hi, List.getElem?_eq_getElem hi]
    exact congrArg some (h i _ (List.getElem?_eq_getElem hi))
  · rw [List.getElem?_eq_none (by simp; omega), List.getElem?_eq_none (by omega)]
section
variable {P : Program} {w : World} {K : PySem.W.Frag} {mg : Str → Option Value} {base : Heap}
def spIsName : Sp := fun vs H Q _ => ∃ x : Str, vs = [.str x] ∧ x.length ≤ 100000 ∧ ∀ H', Same H H' → Q (.bl (isName x)) H'
theorem ok_is_name {f : Addr} {fd : FuncData} (F : Fun K "is_name" "is_name" s_is_name f fd) (T : Txt mg) : FnOk P w K mg base CX0 1 f fd ["text"] spIsName := by
  refine F.ok sc_is_name (fun vs H Q E h => ?_) (fun cdv A outer s H vs Q E hr h => ?_)
  · obtain ⟨x, rfl, _⟩ := h
    rfl
  · obtain ⟨x, rfl, hx, q⟩ := h
    refine ⟨_, (pss_one (ps_ret (pe_and (pe_chain op_le op_le pe_int (pe_callB call_len_str (by rfl) T.b_len PySem.boot_len (pa_cons (pv 0) pa_nil)) (C8.pe_gc (by rfl) T.g_MOST_LETTERS)) (pe_one (pe_callB (cr_all rfl) (by rfl) T.b_all (by decide +kernel) (pa_cons (pe_lc (own := [("letter", 1)]) (g := gName 1) (tt := tYes) (by rfl) sc_is_name.nd (pi_str (pv 0)) (blkOk_by (N := ["text", "letter"]) (sc := defScope s_is_name) (by decide +kernel)) (fun _ _ _ _ _ => (pg_name (i := 1) sc_is_name.nd rfl (by first | exact Or.inl rfl | exact Or.inr rfl))) (fun _ _ _ _ _ => pts_nil) (fun _ _ _ _ _ => (pe_chain op_le_str op_le_str pe_str (pv 1) pe_str))) pa_nil)))))), ?_⟩
    have hs : x.length ≤ sizeLine := Nat.le_trans hx (by rw [sizeLine_eq]; decide)
    refine ⟨.str x, rfl, x, rfl, hs, 1, x.length, rfl, rfl, decide (1 ≤ (x.length : Int)), rfl, ?_⟩
    unfold isName at q
    refine ite2 (fun h1 => ?_) (fun h1 => ?_)
    · refine ⟨x.length, 8, rfl, rfl, decide ((x.length : Int) ≤ 8), rfl, ?_⟩
      rw [h1] at q
      refine ite2 (fun h2 => ?_) (fun h2 => ?_)
      · rw [h2] at q
        refine ⟨.str x, rfl, x, rfl, fun D hD => lc_flat walk_str (fun i => .bl (okSign (x.cps.toList.getD i 0))) ?_ hD (fun _ _ => True.intro) (fun i H x H' y => by obtain ⟨rfl, _⟩ := y; exact same_refl) ?_ ?_⟩
        · show x.length ≤ _
          omega
        · rintro i v H1 H2 hi sm ⟨rfl, c, hc, rfl⟩ R hR
          have ec : x.cps.toList.getD i 0 = c := by
            rw [List.getD_eq_getElem?_getD, Array.getElem?_toList, hc]
            rfl
          refine ⟨rfl, .str ⟨#[c]⟩, rfl, ⟨#[97]⟩, ⟨#[c]⟩, rfl, rfl, _, rfl, ?_⟩
          have e2 : okSign (x.cps.toList.getD i 0) = (!decide ([c] < [97]) && !decide ([122] < [c])) := by rw [ec]; rfl
          refine ite2 (fun h3 => ?_) (fun h3 => ?_)
          · refine ⟨⟨#[c]⟩, ⟨#[122]⟩, rfl, rfl, ?_⟩
            have r := hR H2 same_refl
            rw [e2] at r
            have h3' : (!decide ([c] < [97])) = true := h3
            rw [h3'] at r
            exact r
          · have r := hR H2 same_refl
            rw [e2] at r
            have h3' : (!decide ([c] < [97])) = false := by simpa using h3
            rw [h3'] at r
            exact r
        · intro H1 sm hD1
          refine ⟨D, (List.range x.cps.size).map fun i => okSign (x.cps.toList.getD i 0), rfl, Or.inl (Or.inl ?_), ?_⟩
          · rw [hD1, List.map_map]
            rfl
          · have e : (List.range x.cps.size).map (fun i => okSign (x.cps.toList.getD i 0)) = x.cps.toList.map okSign := by
              have := range_map_get (x.cps.toList.map okSign) (fun i => okSign (x.cps.toList.getD i 0)) (fun i b hb => by
                rw [List.getElem?_map] at hb
                obtain ⟨c, h1, h2⟩ := Option.map_eq_some_iff.mp hb
                rw [List.getD_eq_getElem?_getD, h1]
                exact h2)
              rw [List.length_map] at this
              exact this
            rw [e, List.all_map]
            exact q H1 sm
      · have h2' : decide ((x.length : Int) ≤ 8) = false := by simpa using h2
        rw [h2'] at q
        exact q H same_refl
    · have h1' : decide (1 ≤ (x.length : Int)) = false := by simpa using h1
      rw [h1'] at q
      refine ⟨false, rfl, ?_⟩
      exact q H same_refl
def isRead (d : Int) (r : Rd1) : Bool := isName r.t && (decide ((r.v.length : Int) = d) && !decide (r.f = 0))
def spIsRead (K : PySem.W.Frag) : Sp := fun vs H Q _ => ∃ (v : V) (r : Rd1) (d : Int), vs = [v, .int d] ∧ Dp K H v r.d ∧ r.t.length ≤ 100000 ∧ ∀ H', Same H H' → Q (.bl (isRead d r)) H'
theorem ok_is_read {f : Addr} {fd : FuncData} (F : Fun K "is_read" "is_read" s_is_read f fd) (T : Txt mg) (c_is_name : C8.Cal P w K mg base 1 "is_name" spIsName []) : FnOk P w K mg base CX0 2 f fd ["read", "dimensions"] (spIsRead K) := by
  refine F.ok sc_is_read (fun vs H Q E h => ?_) (fun cdv A outer s H vs Q E hr h => ?_)
  · obtain ⟨v, r, d, rfl, _⟩ := h
    rfl
  · obtain ⟨v, r, d, rfl, hv, hz, q⟩ := h
    refine ⟨_, (pss_cons (ps_asg (pv 0) (pg_tup rfl (pgs_cons (pg_name (i := 2) sc_is_read.nd rfl (by first | exact Or.inl rfl | exact Or.inr rfl)) (pgs_cons (pg_name (i := 3) sc_is_read.nd rfl (by first | exact Or.inl rfl | exact Or.inr rfl)) (pgs_cons (pg_name (i := 4) sc_is_read.nd rfl (by first | exact Or.inl rfl | exact Or.inr rfl)) pgs_nil)))))
  (pss_one (ps_ret (pe_and (C8.pe_c c_is_name hr (by decide) (by rfl) (pa_cons (pv 2) pa_nil)) (pe_and (pe_cmpR op_eq (pe_callB call_len_seq (by rfl) T.b_len PySem.boot_len (pa_cons (pv 3) pa_nil)) (pv 1) (nomark _)) (pe_one (pe_cmpR op_ne (pv 4) pe_int (nomark _)))))))), ?_⟩
    obtain ⟨a, xs, rfl, ht, hd⟩ := dtup hv
    obtain ⟨x1, x2, x3, rfl, h1, h2, h3⟩ := dps3 hd
    obtain rfl := dstr h1
    obtain rfl := dint h3
    obtain ⟨b, ys, rfl, ht2, hd2⟩ := dtup h2
    have hl2 := dps_len hd2
    refine ⟨_, rfl, a, _, rfl, ht, rfl, _, _, rfl, _, _, rfl, _, _, rfl, rfl, ?_⟩
    unfold isRead at q
    refine ⟨.str r.t, rfl, r.t, rfl, hz, fun H1 sm => ⟨_, rfl, ?_⟩⟩
    cases hn : isName r.t with
    | false =>
      refine iteF ?_
      have z := q H1 sm
      rw [hn] at z
      exact z
    | true =>
      refine iteT ?_
      refine ⟨_, rfl, b, ys, rfl, Or.inr (sqt sm ht2), _, rfl, rfl, _, rfl, ?_⟩
      have z := q H1 sm
      rw [hn] at z
      have e : decide (V.int (ys.length : Int) = V.int d) = decide ((r.v.length : Int) = d) := by
        rw [hl2, List.length_map]
        exact decide_eq_decide.mpr ⟨fun h => V.int.inj h, fun h => congrArg V.int h⟩
      rw [e]
      cases hq : decide ((r.v.length : Int) = d) with
      | false =>
        refine iteF ?_
        rw [hq] at z
        exact z
      | true =>
        refine iteT ?_
        rw [hq] at z
        refine ⟨_, rfl, rfl, ?_⟩
        have e3 : decide (V.int r.f = V.int 0) = decide (r.f = 0) := decide_eq_decide.mpr ⟨fun h => V.int.inj h, fun h => congrArg V.int h⟩
        rw [e3]
        exact z
def spDims (K : PySem.W.Frag) (C : Addr) : Sp := fun vs H Q _ => ∃ (s : Addr) (d m : Int) (ts : List Tb), vs = [.ref s] ∧ SysAt K C H s d m ts ∧ Q (.int d) H
theorem ok_dims {f C : Addr} {fd : FuncData} (F : Fun K "dimensions" "System.dimensions" s_System_dimensions f fd) (TC : TxtC K mg C) : FnOk P w K mg base CX0 1 f fd ["self"] (spDims K C) := by
  refine F.ok sc_System_dimensions (fun vs H Q E h => ?_) (fun cdv A outer s H vs Q E hr h => ?_)
  · obtain ⟨s, d, m, ts, rfl, _⟩ := h
    rfl
  · obtain ⟨s, d, m, ts, rfl, S, q⟩ := h
    refine ⟨_, (pss_one (ps_ret (pe_fld (pv 0) rfl))), ?_⟩
    obtain ⟨dx, t, kvs, h1, h2, h3⟩ := S.ob
    exact ⟨_, rfl, s, C, dx, _, _, rfl, h1, TC.cl, TC.nD, flds_d _ _ _, q⟩
def spMod (K : PySem.W.Frag) (C : Addr) : Sp := fun vs H Q _ => ∃ (s : Addr) (d m : Int) (ts : List Tb), vs = [.ref s] ∧ SysAt K C H s d m ts ∧ Q (.int m) H
theorem ok_mod {f C : Addr} {fd : FuncData} (F : Fun K "modulus" "System.modulus" s_System_modulus f fd) (TC : TxtC K mg C) : FnOk P w K mg base CX0 1 f fd ["self"] (spMod K C) := by
  refine F.ok sc_System_modulus (fun vs H Q E h => ?_) (fun cdv A outer s H vs Q E hr h => ?_)
  · obtain ⟨s, d, m, ts, rfl, _⟩ := h
    rfl
  · obtain ⟨s, d, m, ts, rfl, S, q⟩ := h
    refine ⟨_, (pss_one (ps_ret (pe_fld (pv 0) rfl))), ?_⟩
    obtain ⟨dx, t, kvs, h1, h2, h3⟩ := S.ob
    exact ⟨_, rfl, s, C, dx, _, _, rfl, h1, TC.cl, TC.nM, flds_m _ _ _, q⟩
def spNames (K : PySem.W.Frag) (C : Addr) : Sp := fun vs H Q _ => ∃ (s : Addr) (d m : Int) (ts : List Tb), vs = [.ref s] ∧ SysAt K C H s d m ts ∧ ∀ p H', H p = none → Same H H' → H' p = some (.lst (ts.map fun t => V.str t.n)) → Q (.ref p) H'
theorem ok_names {f C : Addr} {fd : FuncData} (F : Fun K "names" "System.names" s_System_names f fd) (T : Txt mg) (TC : TxtC K mg C) : FnOk P w K mg base CX0 1 f fd ["self"] (spNames K C) := by
  refine F.ok sc_System_names (fun vs H Q E h => ?_) (fun cdv A outer s H vs Q E hr h => ?_)
  · obtain ⟨s, d, m, ts, rfl, _⟩ := h
    rfl
  · obtain ⟨s, d, m, ts, rfl, S, q⟩ := h
    refine ⟨_, (pss_one (ps_ret (pe_callTy (call_listD rfl) (by rfl) T.b_list (by decide +kernel) (pa_cons (pe_fld (pv 0) rfl) pa_nil)))), ?_⟩
    obtain ⟨dx, t, kvs, h1, h2, h3⟩ := S.ob
    refine ⟨_, rfl, s, C, dx, _, _, rfl, h1, TC.cl, TC.nT, flds_t _ _ _, t, kvs, rfl, Or.inl h2, fun p hp => ?_⟩
    refine q p _ hp (snew hp) ?_
    rw [upd_same, h3.keys]
def okPoint (d : Int) (p : List Int) : Bool := decide ((p.length : Int) = d) && p.all fun i => decide (0 ≤ i)
def spCheckTable (K : PySem.W.Frag) (C : Addr) : Sp := fun vs H Q _ => ∃ (s : Addr) (d m : Int) (ts : List Tb) (x : Str), vs = [.ref s, .str x] ∧ SysAt K C H s d m ts ∧ x ∈ ts.map (·.n) ∧ ∀ H', Same H H' → Q .non H'
theorem inV_str {x : Str} : ∀ {l : List Str}, x ∈ l → inV (.str x) (l.map V.str) = true := by
  intro l h
  unfold inV
  rw [List.any_map, List.any_eq_true]
  refine ⟨x, h, ?_⟩
  first
    | rfl
    | simp [eqV]
theorem flat_strs (l : List Str) : (l.map V.str).all flatV = true := by
  rw [List.all_map, List.all_eq_true]
  intro x _
  rfl
theorem ok_check_table {f C : Addr} {fd : FuncData} (F : Fun K "check_table" "check_table" s_check_table f fd) (T : Txt mg) (p_names : Prp P w K mg base 1 C "names" (spNames K C)) : FnOk P w K mg base CX0 3 f fd ["system", "name"] (spCheckTable K C) := by
  refine F.ok sc_check_table (fun vs H Q E h => ?_) (fun cdv A outer s H vs Q E hr h => ?_)
  · obtain ⟨s, d, m, ts, x, rfl, _⟩ := h
    rfl
  · obtain ⟨s, d, m, ts, x, rfl, S, hx, q⟩ := h
    refine ⟨_, (pss_one (ps_if (pt_cmpR op_notIn_seq (pv 1) (pe_pr (pv 0) p_names hr (by decide) rfl) (by rfl))
    (pss_one ps_never)
    pss_nil)), ?_⟩
    obtain ⟨dx, t, kvs, h1, h2, h3⟩ := S.ob
    refine ⟨_, rfl, _, rfl, s, dx, _, rfl, h1, s, d, m, ts, rfl, S, fun p H' hp sm hl => ?_⟩
    have e : (ts.map fun t => V.str t.n) = (ts.map (·.n)).map V.str := by
      rw [List.map_map]
      rfl
    refine ⟨p, _, rfl, Or.inl (Or.inl (Or.inl hl)), rfl, ?_, ?_⟩
    · rw [e]
      exact flat_strs _
    · rw [e, inV_str hx]
      exact ⟨_, rfl, iteF (q H' sm)⟩
def spReads (K : PySem.W.Frag) (C : Addr) : Sp := fun vs H Q _ => ∃ (B : Hp) (s : Addr) (d m : Int) (ts : List Tb) (x : Str) (tb : Tb), vs = [.ref s, .str x] ∧ Same B H ∧ SysAt K C B s d m ts ∧ x ∈ ts.map (·.n) ∧ ts.find? (fun t => decide (t.n = x)) = some tb ∧
  ∀ p H' xs, H p = none → Same H H' → H' p = some (.lst xs) → DpAll K B xs (tb.rs.map Rd1.d) → Q (.ref p) H'
theorem ok_reads {f C : Addr} {fd : FuncData} (F : Fun K "reads" "System.reads" s_System_reads f fd) (T : Txt mg) (TC : TxtC K mg C) (c_check_table : C8.Cal P w K mg base 3 "check_table" (spCheckTable K C) []) : FnOk P w K mg base CX0 4 f fd ["self", "name"] (spReads K C) := by
  refine F.ok sc_System_reads (fun vs H Q E h => ?_) (fun cdv A outer s H vs Q E hr h => ?_)
  · obtain ⟨B, s, d, m, ts, x, tb, rfl, _⟩ := h
    rfl
  · obtain ⟨B, s, d, m, ts, x, tb, rfl, sB, S, hx, hf, q⟩ := h
    have hu := hu_of hr
    refine ⟨_, (pss_cons (ps_expr (C8.pe_c c_check_table hr (by decide) (by rfl) (pa_cons (pv 0) (pa_cons (pv 1) pa_nil))))
  (pss_one (ps_ret (pe_callTy call_list_of (by rfl) T.b_list (by decide +kernel) (pa_cons (pe_ix ix_tup (pe_dget hu (pe_fld (pv 0) rfl) (pv 1) (fun _ _ => rfl)) pe_int (fun _ _ => rfl)) pa_nil))))), ?_⟩
    refine ⟨_, rfl, _, rfl, s, d, m, ts, x, rfl, S.mono sB, hx, fun H1 sm => ?_⟩
    obtain ⟨dx, t, kvs, h1, h2, h3⟩ := S.ob
    have sB1 := same_tr sB sm
    have h1 := sB1 _ _ h1
    have h2 := sB1 _ _ h2
    obtain ⟨v, e1, e2⟩ := h3.get hf
    obtain ⟨a, ys, rfl, ht, hd⟩ := dtup e2
    obtain ⟨y1, y2, rfl, g1, g2⟩ := dps2 hd
    obtain ⟨b, zs, rfl, ht2, hd2⟩ := dtup g2
    refine ⟨_, rfl, s, C, dx, _, _, rfl, h1, TC.cl, TC.nT, flds_t _ _ _, _, rfl, t, _, rfl, ?_, a, _, 1, _, rfl, rfl, sqt sB1 ht, rfl, b, zs, rfl, Or.inr (sqt sB1 ht2), fun p hp => ?_⟩
    · have g := DGet.k (k := Sum.inr x) h2
      rw [e1] at g
      exact g
    · exact q p _ _ (free_of sm hp) (same_tr sm (snew hp)) upd_same hd2
structure OkT (d : Int) (ts : List Tb) : Prop where
  names : ∀ t ∈ ts, isName t.n = true
  nodup : (ts.map (·.n)).Nodup
  few : (ts.map fun t => t.rs.length).sum ≤ 12
  reads : ∀ t ∈ ts, ∀ r ∈ t.rs, isRead d r = true
  here : ∀ t ∈ ts, ∀ r ∈ t.rs, r.t ∈ ts.map (·.n)
theorem name_len {x : Str} (h : isName x = true) : x.length ≤ 100000 := by
  unfold isName at h
  rw [Bool.and_eq_true, Bool.and_eq_true] at h
  have := of_decide_eq_true h.1.2
  omega
theorem read_len {d : Int} {r : Rd1} (h : isRead d r = true) : r.t.length ≤ 100000 := by
  unfold isRead at h
  rw [Bool.and_eq_true] at h
  exact name_len h.1
def nth (l : List Str) (i : Nat) : Str := l.getD i Str.empty
theorem nth_of {l : List Str} {i : Nat} {x : Str} (h : l[i]? = some x) : nth l i = x := by
  unfold nth
  rw [List.getD_eq_getElem?_getD, h]
  rfl
theorem nths (l : List Str) : (List.range l.length).map (fun i => V.str (nth l i)) = l.map V.str := by
  have := range_map_get (l.map V.str) (fun i => V.str (nth l i)) (fun i b hb => by
    rw [List.getElem?_map] at hb
    obtain ⟨c, h1, h2⟩ := Option.map_eq_some_iff.mp hb
    rw [nth_of h1]
    exact h2)
  rw [List.length_map] at this
  exact this
theorem cut_to (xs : List V) (i : Nat) (h : i ≤ xs.length) : cutV xs none (some (i : Int)) = xs.take i := by
  unfold cutV
  rw [show HT.sIx xs.length xs.length (some (i : Int)) = min i xs.length from HT.sIx_nat xs.length xs.length i, HT.sIx_none, List.drop_zero, Nat.sub_zero, Nat.min_eq_left h]
theorem notin_take {l : List Str} {i : Nat} {x : Str} (hn : l.Nodup) (h : l[i]? = some x) : x ∉ l.take i := by
  intro hm
  obtain ⟨j, hj, e⟩ := List.mem_iff_getElem.mp hm
  rw [List.length_take] at hj
  have e2 : l[j]? = some x := by
    rw [List.getElem_take] at e
    rw [List.getElem?_eq_getElem (by omega), e]
  have := nd_ix hn e2 h
  omega
theorem inV_no {x : Str} : ∀ {l : List Str}, x ∉ l → inV (.str x) (l.map V.str) = false := by
  intro l h
  unfold inV
  rw [List.any_map, List.any_eq_false]
  intro y hy e
  have e' : y = x := by
    first
      | exact of_decide_eq_true e
      | simpa [eqV] using e
  exact h (e' ▸ hy)
/-- what stands at the i-th place of a list of tables -/
theorem tb_at {H : Hp} {xs : List V} {ts : List Tb} {i : Nat} {x : V} (h : DpAll K H xs (ts.map Tb.d)) (e : xs[i]? = some x) : ∃ t a l ys, ts[i]? = some t ∧ x = .ref a ∧ SqT K H a [.str t.n, .int t.c, .ref l] ∧ SqL K H l ys ∧ DpAll K H ys (t.rs.map Rd1.d) := by
  obtain ⟨d, e1, e2⟩ := dps_get h e
  rw [List.getElem?_map] at e1
  obtain ⟨t, e3, rfl⟩ := Option.map_eq_some_iff.mp e1
  obtain ⟨a, zs, rfl, ht, hd⟩ := dtup e2
  obtain ⟨z1, z2, z3, rfl, h1, h2, h3⟩ := dps3 hd
  obtain rfl := dstr h1
  obtain rfl := dint h2
  obtain ⟨l, ys, rfl, hl, hy⟩ := dlst h3
  exact ⟨t, a, l, ys, e3, rfl, ht, hl, hy⟩
theorem rd_at {H : Hp} {xs : List V} {rs : List Rd1} {i : Nat} {x : V} (h : DpAll K H xs (rs.map Rd1.d)) (e : xs[i]? = some x) : ∃ r a b, rs[i]? = some r ∧ x = .ref a ∧ Dp K H x r.d ∧ SqT K H a [.str r.t, .ref b, .int r.f] ∧ SqT K H b (r.v.map V.int) := by
  obtain ⟨d, e1, e2⟩ := dps_get h e
  rw [List.getElem?_map] at e1
  obtain ⟨r, e3, rfl⟩ := Option.map_eq_some_iff.mp e1
  obtain ⟨a, zs, rfl, ht, hd⟩ := dtup e2
  obtain ⟨z1, z2, z3, rfl, h1, h2, h3⟩ := dps3 hd
  obtain rfl := dstr h1
  obtain rfl := dint h3
  obtain ⟨b, ys, rfl, hb, hy⟩ := dtup h2
  obtain rfl := dps_ints hy
  exact ⟨r, a, b, e3, rfl, e2, ht, hb⟩
def cnt (ts : List Tb) : Nat := (ts.map fun t => t.rs.length).sum
theorem cnt_take {ts : List Tb} {i : Nat} {t : Tb} (h : ts[i]? = some t) : cnt (ts.take (i + 1)) = cnt (ts.take i) + t.rs.length := by
  unfold cnt
  rw [List.take_add_one, h, List.map_append, List.sum_append]
  rfl
theorem cnt_le (ts : List Tb) (i : Nat) : cnt (ts.take i) ≤ cnt ts := by
  unfold cnt
  have e := congrArg (fun l : List Tb => (l.map fun t => t.rs.length).sum) (List.take_append_drop i ts)
  simp only [List.map_append, List.sum_append] at e
  omega
def spCheckTables (K : PySem.W.Frag) : Sp := fun vs H Q _ => ∃ (d : Int) (v : V) (ts : List Tb), vs = [.int d, v] ∧ Dp K H v (.list (ts.map Tb.d)) ∧ ts.length ≤ 6 ∧ OkT d ts ∧ ∀ H', Same H H' → Q .non H'
theorem ok_check_tables {f : Addr} {fd : FuncData} (F : Fun K "check_tables" "check_tables" s_check_tables f fd) (T : Txt mg) (c_is_name : C8.Cal P w K mg base 1 "is_name" spIsName []) (c_is_read : C8.Cal P w K mg base 2 "is_read" (spIsRead K) []) : FnOk P w K mg base CX0 3 f fd ["dimensions", "tables"] (spCheckTables K) := by
  refine F.ok sc_check_tables (fun vs H Q E h => ?_) (fun cdv A outer s H vs Q E hr h => ?_)
  · obtain ⟨d, v, ts, rfl, _⟩ := h
    rfl
  · obtain ⟨d, v, ts, rfl, hv, hl6, O, q⟩ := h
    refine ⟨_, (pss_cons (ps_setLc (i := 2) (own := [("table", 3)]) (g := gName 3) (tt := tYes) (by rfl) sc_check_tables.nd rfl rfl (sw_true rfl rfl rfl (by decide +kernel)) (pi_list (pv 1)) (blkOk_by (N := ["dimensions", "tables", "names", "table", "many", "row", "name", "_", "reads", "read"]) (sc := defScope s_check_tables) (by decide +kernel)) (fun _ _ _ _ _ => (pg_name (i := 3) sc_check_tables.nd rfl (by first | exact Or.inl rfl | exact Or.inr rfl))) (fun _ _ _ _ _ => pts_nil) (fun _ _ _ _ _ => (pe_ix (r := rIxT K) ix_tup (pv 3) pe_int (fun _ _ => rfl))))
  (pss_cons (ps_set (i := 4) sc_check_tables.nd rfl (by first | exact Or.inl rfl | exact Or.inr rfl) pe_int)
  (pss_one (ps_for PassesOwn.never rfl (pi_enum (by rfl) T.b_enumerate (pa_cons (pv 1) pa_nil)) (pg_tup rfl (pgs_cons (pg_name (i := 5) sc_check_tables.nd rfl (by first | exact Or.inl rfl | exact Or.inr rfl)) (pgs_cons (pg_tup rfl (pgs_cons (pg_name (i := 6) sc_check_tables.nd rfl (by first | exact Or.inl rfl | exact Or.inr rfl)) (pgs_cons (pg_name (i := 7) sc_check_tables.nd rfl (by first | exact Or.inl rfl | exact Or.inr rfl)) (pgs_cons (pg_name (i := 8) sc_check_tables.nd rfl (by first | exact Or.inl rfl | exact Or.inr rfl)) pgs_nil)))) pgs_nil)))
    (pss_cons (ps_aug (i := 4) sc_check_tables.nd rfl (by first | exact Or.inl rfl | exact Or.inr rfl) (pe_callB call_len_seq (by rfl) T.b_len PySem.boot_len (pa_cons (pv 8) pa_nil)) ip_add)
    (pss_cons (ps_if (PW.pt (pw_or (pt_not (pt_val (C8.pe_c c_is_name hr (by decide) (by rfl) (pa_cons (pv 6) pa_nil)))) (pw_or (pt_cmpR op_in_seq (pv 6) (pe_slice sl_list (pv 2) po_none (po_some (pv 5))) (by rfl)) (pw_or1 (pt_cmpR op_gt (pv 4) (C8.pe_gc (by rfl) T.g_MOST_READS) (nomark _))))))
      (pss_one ps_never)
      pss_nil)
    (pss_one (ps_if (pt_not (pt_val (pe_callB (cr_all rfl) (by rfl) T.b_all (by decide +kernel) (pa_cons (pe_lc (own := [("read", 9)]) (g := gName 9) (tt := tYes) (by rfl) sc_check_tables.nd (pi_list (pv 8)) (blkOk_by (N := ["dimensions", "tables", "names", "table", "many", "row", "name", "_", "reads", "read"]) (sc := defScope s_check_tables) (by decide +kernel)) (fun _ _ _ _ _ => (pg_name (i := 9) sc_check_tables.nd rfl (by first | exact Or.inl rfl | exact Or.inr rfl))) (fun _ _ _ _ _ => pts_nil) (fun _ _ _ _ _ => (C8.pe_c c_is_read hr (by decide) (by rfl) (pa_cons (pv 9) (pa_cons (pv 0) pa_nil))))) pa_nil))))
      (pss_one ps_never)
      pss_nil)))))))), ?_⟩
    obtain ⟨a, xs, rfl, ha, hd⟩ := dlst hv
    have hxl : xs.length = ts.length := by rw [dps_len hd, List.length_map]
    -- names = [table[0] ..]
    refine ⟨_, rfl, a, rfl, ⟨_, ha⟩, fun D hD => lc_flat (walk_list (K := K) (a := a) (xs := xs)) (fun i => .str (nth (ts.map (·.n)) i)) (by omega) hD (fun H' sm => sql sm ha) (fun i H x H' y => yat_same y) ?_ ?_⟩
    · rintro i x H1 H2 hi sm ⟨rfl, hx⟩ R hR
      obtain ⟨t, b, l, ys, e1, rfl, g1, _, _⟩ := tb_at (dpsm sm _ _ hd) hx
      have en : nth (ts.map (·.n)) i = t.n := nth_of (by rw [List.getElem?_map, e1]; rfl)
      refine ⟨rfl, _, rfl, b, _, 0, _, rfl, rfl, g1, rfl, ?_⟩
      have r := hR H2 same_refl
      rw [en] at r
      exact r
    · intro H1 sm hD1
      have hD1 : H1 D = some (.lst ((ts.map (·.n)).map V.str)) := by
        rw [hD1, hxl, ← nths, List.length_map]
      -- many = 0; the loop
      refine ⟨_, rfl, a, xs, rfl, sql sm ha, for_it (walk_enum (K := K) (a := a) (xs := xs)) (fun i σ H2 => ∃ y5 y6 y7 y8, σ = [some (.int d), some (.ref a), some (.ref D), none, some (.int (cnt (ts.take i))), y5, y6, y7, y8, none] ∧ Same H1 H2)
        ⟨none, none, none, none, rfl, same_refl⟩ (fun i σ H2 _ ⟨_, _, _, _, _, s2⟩ => sql (same_tr sm s2) ha) ?_ ?_⟩
      · rintro i x σ H2 H3 hi ⟨y5, y6, y7, y8, rfl, s2⟩ ⟨Tp, z1, z2, rfl, hT, rfl, e1, e2⟩
        cases e1
        have s3 : Same H1 (upd H2 Tp (.tup [.int (i : Nat), z2])) := same_tr s2 (snew hT)
        obtain ⟨t, b, l, ys, f1, rfl, g1, g2, g3⟩ := tb_at (dpsm (same_tr sm s3) _ _ hd) e2
        have htm : t ∈ ts := List.mem_of_getElem? f1
        have hyl : ys.length = t.rs.length := by rw [dps_len g3, List.length_map]
        refine ⟨Tp, _, rfl, Or.inl (Or.inl upd_same), rfl, _, _, rfl, _, _, rfl, b, _, rfl, g1, rfl, _, _, rfl, _, _, rfl, _, _, rfl, rfl, rfl, ?_⟩
        -- many += len(reads)
        refine ⟨_, rfl, _, rfl, l, ys, rfl, Or.inl g2, _, _, rfl, rfl, ?_⟩
        have hc := cnt_take f1
        have hc2 := cnt_le ts (i + 1)
        have h12 : cnt ts ≤ 12 := O.few
        -- the first test
        refine ⟨.str t.n, rfl, t.n, rfl, name_len (O.names t htm), fun H4 s4 => ⟨_, rfl, ?_⟩⟩
        rw [O.names t htm]
        refine iteF ?_
        have hD4 : H4 D = some (.lst ((ts.map (·.n)).map V.str)) := s4 _ _ (s3 _ _ hD1)
        refine ⟨_, rfl, _, rfl, _, rfl, (i : Int), rfl, D, _, rfl, Or.inl (Or.inl hD4), fun p hp => ?_⟩
        have s5 : Same H4 (upd H4 p (.lst (cutV ((ts.map (·.n)).map V.str) none (some (i : Int))))) := snew hp
        rw [cut_to _ _ (by rw [List.length_map, List.length_map]; omega), ← List.map_take]
        refine ⟨p, _, rfl, Or.inl (Or.inl (Or.inl upd_same)), rfl, flat_strs _, false, ?_, iteF ?_⟩
        · rw [inV_no (notin_take O.nodup (by rw [List.getElem?_map, f1]; rfl))]
          rfl
        · refine ⟨_, rfl, _, 12, rfl, rfl, decide (12 < (cnt (ts.take i) : Int) + (ys.length : Int)), rfl, ?_⟩
          rw [decide_eq_false (by omega)]
          refine iteF ?_
          -- the second test
          have s6 : Same H1 (upd H4 p (.lst (((ts.map (·.n)).take i).map V.str))) := same_tr s3 (same_tr s4 (snew hp))
          refine ⟨_, rfl, l, rfl, ⟨ys, sql (same_tr s4 (snew hp)) g2⟩, fun D2 hD2 => lc_flat (walk_list (K := K) (a := l) (xs := ys)) (fun j => .bl true) (by omega) hD2 (fun H' sm' => sql sm' (sql (same_tr s4 (snew hp)) g2)) (fun i H x H' y => yat_same y) ?_ ?_⟩
          · rintro j x H5 H6 hj sm5 ⟨rfl, hx⟩ R hR
            obtain ⟨r, ra, rb, e3, rfl, e4, _, _⟩ := rd_at (dpsm sm5 _ _ (dpsm (same_tr s4 (snew hp)) _ _ g3)) hx
            have hro := O.reads t htm r (List.mem_of_getElem? e3)
            refine ⟨rfl, _, rfl, _, rfl, .ref ra, r, d, rfl, e4, read_len hro, fun H7 s7 => ?_⟩
            rw [hro]
            exact hR H7 s7
          · intro H5 sm5 hD5
            refine ⟨D2, (List.range ys.length).map fun _ => true, rfl, Or.inl (Or.inl ?_), ⟨_, rfl, ?_⟩⟩
            · rw [hD5, List.map_map]
              rfl
            · have e : ((List.range ys.length).map fun _ => true).all id = true := by
                rw [List.all_map, List.all_eq_true]
                intro _ _
                rfl
              rw [e]
              refine iteF ?_
              refine ⟨some (.int (i : Int)), some (.str t.n), some (.int t.c), some (.ref l), ?_, same_tr s6 sm5⟩
              rw [hc]
              have ec : (cnt (ts.take i) : Int) + (ys.length : Int) = ((cnt (ts.take i) + t.rs.length : Nat) : Int) := by omega
              rw [← ec]
              rfl
      · rintro σ H2 ⟨_, _, _, _, rfl, s2⟩
        exact q H2 (same_tr sm s2)
theorem dict_flat_any : True := True.intro
def spCheckRead (K : PySem.W.Frag) : Sp := fun vs H Q _ => ∃ (d : Int) (v : V) (ts : List Tb), vs = [v] ∧ Dp K H v (.list (ts.map Tb.d)) ∧ ts.length ≤ 6 ∧ OkT d ts ∧ ∀ H', Same H H' → Q .non H'
theorem few_reads {d : Int} {ts : List Tb} (O : OkT d ts) {t : Tb} (h : t ∈ ts) : t.rs.length ≤ 12 := by
  obtain ⟨i, hi⟩ := List.mem_iff_getElem?.mp h
  have h1 := cnt_take hi
  have h2 := cnt_le ts (i + 1)
  have h3 : cnt ts ≤ 12 := O.few
  omega
theorem ok_check_read {f : Addr} {fd : FuncData} (F : Fun K "check_tables_that_are_read" "check_tables_that_are_read" s_check_tables_that_are_read f fd) (T : Txt mg) : FnOk P w K mg base CX0 3 f fd ["tables"] (spCheckRead K) := by
  refine F.ok sc_check_tables_that_are_read (fun vs H Q E h => ?_) (fun cdv A outer s H vs Q E hr h => ?_)
  · obtain ⟨d, v, ts, rfl, _⟩ := h
    rfl
  · obtain ⟨d, v, ts, rfl, hv, hl6, O, q⟩ := h
    refine ⟨_, (pss_cons (ps_set (i := 1) sc_check_tables_that_are_read.nd rfl (by first | exact Or.inl rfl | exact Or.inr rfl) (pe_lc (own := [("table", 2)]) (g := gName 2) (tt := tYes) (by rfl) sc_check_tables_that_are_read.nd (pi_list (pv 0)) (blkOk_by (N := ["tables", "names", "table", "row", "read"]) (sc := defScope s_check_tables_that_are_read) (by decide +kernel)) (fun _ _ _ _ _ => (pg_name (i := 2) sc_check_tables_that_are_read.nd rfl (by first | exact Or.inl rfl | exact Or.inr rfl))) (fun _ _ _ _ _ => pts_nil) (fun _ _ _ _ _ => (pe_ix (r := rIxT K) ix_tup (pv 2) pe_int (fun _ _ => rfl)))))
  (pss_one (ps_for PassesOwn.never rfl (pi_enum (by rfl) T.b_enumerate (pa_cons (pv 0) pa_nil)) (pg_tup rfl (pgs_cons (pg_name (i := 3) sc_check_tables_that_are_read.nd rfl (by first | exact Or.inl rfl | exact Or.inr rfl)) (pgs_cons (pg_name (i := 2) sc_check_tables_that_are_read.nd rfl (by first | exact Or.inl rfl | exact Or.inr rfl)) pgs_nil)))
    (pss_one (ps_if (pt_not (pt_val (pe_callB (cr_all rfl) (by rfl) T.b_all (by decide +kernel) (pa_cons (pe_lc (own := [("read", 4)]) (g := gName 4) (tt := tYes) (by rfl) sc_check_tables_that_are_read.nd (pi_list (pe_ix ix_tup (pv 2) pe_int (fun _ _ => rfl))) (blkOk_by (N := ["tables", "names", "table", "row", "read"]) (sc := defScope s_check_tables_that_are_read) (by decide +kernel)) (fun _ _ _ _ _ => (pg_name (i := 4) sc_check_tables_that_are_read.nd rfl (by first | exact Or.inl rfl | exact Or.inr rfl))) (fun _ _ _ _ _ => pts_nil) (fun _ _ _ _ _ => (pe_cmpR (r := rIn K false) op_in_seq (pe_ix (r := rIxT K) ix_tup (pv 4) pe_int (fun _ _ => rfl)) (pv 1) (by rfl)))) pa_nil))))
      (pss_one ps_never)
      pss_nil))))), ?_⟩
    obtain ⟨a, xs, rfl, ha, hd⟩ := dlst hv
    have hxl : xs.length = ts.length := by rw [dps_len hd, List.length_map]
    refine ⟨_, rfl, a, rfl, ⟨_, ha⟩, fun D hD => lc_flat (walk_list (K := K) (a := a) (xs := xs)) (fun i => .str (nth (ts.map (·.n)) i)) (by omega) hD (fun H' sm => sql sm ha) (fun i H x H' y => yat_same y) ?_ ?_⟩
    · rintro i x H1 H2 hi sm ⟨rfl, hx⟩ R hR
      obtain ⟨t, b, l, ys, e1, rfl, g1, _, _⟩ := tb_at (dpsm sm _ _ hd) hx
      have en : nth (ts.map (·.n)) i = t.n := nth_of (by rw [List.getElem?_map, e1]; rfl)
      refine ⟨rfl, _, rfl, b, _, 0, _, rfl, rfl, g1, rfl, ?_⟩
      have r := hR H2 same_refl
      rw [en] at r
      exact r
    · intro H1 sm hD1
      have hD1 : H1 D = some (.lst ((ts.map (·.n)).map V.str)) := by
        rw [hD1, hxl, ← nths, List.length_map]
      refine ⟨_, rfl, a, xs, rfl, sql sm ha, for_it (walk_enum (K := K) (a := a) (xs := xs)) (fun i σ H2 => ∃ y2 y3, σ = [some (.ref a), some (.ref D), y2, y3, none] ∧ Same H1 H2)
        ⟨none, none, rfl, same_refl⟩ (fun i σ H2 _ ⟨_, _, _, s2⟩ => sql (same_tr sm s2) ha) ?_ ?_⟩
      · rintro i x σ H2 H3 hi ⟨y2, y3, rfl, s2⟩ ⟨Tp, z1, z2, rfl, hT, rfl, e1, e2⟩
        cases e1
        have s3 : Same H1 (upd H2 Tp (.tup [.int (i : Nat), z2])) := same_tr s2 (snew hT)
        obtain ⟨t, b, l, ys, f1, rfl, g1, g2, g3⟩ := tb_at (dpsm (same_tr sm s3) _ _ hd) e2
        have htm : t ∈ ts := List.mem_of_getElem? f1
        have hyl : ys.length = t.rs.length := by rw [dps_len g3, List.length_map]
        have h12 := few_reads O htm
        refine ⟨Tp, _, rfl, Or.inl (Or.inl upd_same), rfl, _, _, rfl, _, _, rfl, rfl, ?_⟩
        refine ⟨_, rfl, b, _, 2, _, rfl, rfl, g1, rfl, l, rfl, ⟨ys, g2⟩, fun D2 hD2 => lc_flat (walk_list (K := K) (a := l) (xs := ys)) (fun j => .bl true) (by omega) hD2 (fun H' sm' => sql sm' g2) (fun i H x H' y => yat_same y) ?_ ?_⟩
        · rintro j x H5 H6 hj sm5 ⟨rfl, hx⟩ R hR
          obtain ⟨r, ra, rb, e3, rfl, e4, g5, _⟩ := rd_at (dpsm sm5 _ _ g3) hx
          have hm := O.here t htm r (List.mem_of_getElem? e3)
          refine ⟨rfl, _, rfl, ra, _, 0, _, rfl, rfl, g5, rfl, _, rfl, D, _, rfl, Or.inl (Or.inl (Or.inl (sm5 _ _ (s3 _ _ hD1)))), rfl, flat_strs _, ?_⟩
          rw [inV_str hm]
          exact hR H6 same_refl
        · intro H5 sm5 hD5
          refine ⟨D2, (List.range ys.length).map fun _ => true, rfl, Or.inl (Or.inl ?_), ⟨_, rfl, ?_⟩⟩
          · rw [hD5, List.map_map]
            rfl
          · have e : ((List.range ys.length).map fun _ => true).all id = true := by
              rw [List.all_map, List.all_eq_true]
              intro _ _
              rfl
            rw [e]
            refine iteF ?_
            exact ⟨some (.ref b), some (.int (i : Int)), rfl, same_tr s3 sm5⟩
      · rintro σ H2 ⟨_, _, rfl, s2⟩
        exact q H2 (same_tr sm s2)
def spCheckSystem (K : PySem.W.Frag) : Sp := fun vs H Q _ => ∃ (d m : Int) (v : V) (ts : List Tb), vs = [.int d, v, .int m] ∧ 1 ≤ d ∧ d ≤ 3 ∧ 2 ≤ m ∧ Dp K H v (.list (ts.map Tb.d)) ∧ 1 ≤ ts.length ∧ ts.length ≤ 6 ∧ OkT d ts ∧ ∀ H', Same H H' → Q .non H'
theorem ok_check_system {f : Addr} {fd : FuncData} (F : Fun K "check_system" "check_system" s_check_system f fd) (T : Txt mg) (c_check_tables : C8.Cal P w K mg base 3 "check_tables" (spCheckTables K) []) (c_check_tables_that_are_read : C8.Cal P w K mg base 3 "check_tables_that_are_read" (spCheckRead K) []) :
    FnOk P w K mg base CX0 4 f fd ["dimensions", "tables", "modulus"] (spCheckSystem K) := by
  refine F.ok sc_check_system (fun vs H Q E h => ?_) (fun cdv A outer s H vs Q E hr h => ?_)
  · obtain ⟨d, m, v, ts, rfl, _⟩ := h
    rfl
  · obtain ⟨d, m, v, ts, rfl, hd1, hd3, hm, hv, hl1, hl6, O, q⟩ := h
    refine ⟨_, (pss_cons (ps_if (pt_not (pt_chain op_le op_le pe_int (pv 0) (C8.pe_gc (by rfl) T.g_MOST_DIMENSIONS)))
    (pss_one ps_never)
    pss_nil)
  (pss_cons (ps_if (pt_not (pt_chain op_le op_le pe_int (pe_callB call_len_seq (by rfl) T.b_len PySem.boot_len (pa_cons (pv 1) pa_nil)) (C8.pe_gc (by rfl) T.g_MOST_TABLES)))
    (pss_one ps_never)
    pss_nil)
  (pss_cons (ps_expr (C8.pe_c c_check_tables hr (by decide) (by rfl) (pa_cons (pv 0) (pa_cons (pv 1) pa_nil))))
  (pss_cons (ps_expr (C8.pe_c c_check_tables_that_are_read hr (by decide) (by rfl) (pa_cons (pv 1) pa_nil)))
  (pss_one (ps_if (pt_cmpR op_lt (pv 2) pe_int (nomark _))
    (pss_one ps_never)
    pss_nil)))))), ?_⟩
    obtain ⟨a, xs, rfl, ha, hd⟩ := dlst hv
    have hxl : xs.length = ts.length := by rw [dps_len hd, List.length_map]
    refine ⟨_, rfl, 1, d, rfl, rfl, decide (1 ≤ d), rfl, ?_⟩
    rw [decide_eq_true hd1]
    refine iteT ⟨d, 3, rfl, rfl, decide (d ≤ 3), rfl, ?_⟩
    rw [decide_eq_true hd3]
    refine iteF ?_
    refine ⟨_, rfl, a, xs, rfl, Or.inl ha, 1, _, rfl, rfl, decide (1 ≤ (xs.length : Int)), rfl, ?_⟩
    rw [decide_eq_true (by omega)]
    refine iteT ⟨_, 6, rfl, rfl, decide ((xs.length : Int) ≤ 6), rfl, ?_⟩
    rw [decide_eq_true (by omega)]
    refine iteF ?_
    refine ⟨_, rfl, _, rfl, d, .ref a, ts, rfl, hv, hl6, O, fun H1 s1 => ?_⟩
    refine ⟨_, rfl, d, .ref a, ts, rfl, dpm s1 _ _ hv, hl6, O, fun H2 s2 => ?_⟩
    refine ⟨_, rfl, m, 2, rfl, rfl, decide (m < 2), rfl, ?_⟩
    rw [decide_eq_false (by omega)]
    exact iteF (q H2 (same_tr s1 s2))
/-- a def with a code object that is known -/
structure FunC (K : PySem.W.Frag) (x qual : Str) (st : Stmt) (f : Addr) (fd : FuncData) (c : Addr) : Prop where
  ex : ∃ (oc : Value) (od : Option Addr) (dV kV doc pm : Value) (an : Option Addr) (ct : Value) (osl : Array (Option Value)),
    fd = PySem.W.fnOf x qual (defArgs st) (defBody st) (defScope st) dV kV doc pm an (.ref c) ct ∧ K.lookup f = some ⟨oc, od, .func fd, osl⟩ ∧ PySem.W.codeIn K (.ref c) qual = true
theorem FunC.ok {x qual : Str} {st : Stmt} {f c : Addr} {fd : FuncData} {N ps : List Str} {k : Nat} {sp : Sp} (F : FunC K x qual st f fd c) (S : FnScope N ps (defScope st)) (len : ∀ vs H Q E, sp vs H Q E → vs.length = ps.length)
    (hbody : ∀ (A : Around) (outer : List Env) (s : Shared) (H : Hp) (vs : List V) (Q : VK) (E : XK), Room k (A.deeper (envOfC qual (defScope st) s.heap.objs.size f (.ref c))) → sp vs H Q E →
      ∃ t, PSs (cxOf CX0 P w K mg base N qual (defScope st) f (.ref c) A outer s H E).nox (defBody st) t ∧ t { nx := fun _ H' => Q .non H', rt := Q } (start N vs) H) : FnOk P w K mg base CX0 (k + 1) f fd ps sp := by
  obtain ⟨oc, od, dV, kV, doc, pm, an, ct, osl, rfl, lk, hcd⟩ := F.ex
  refine fn_of lk hcd S len fun A outer s H vs Q E hr hsp => ?_
  obtain ⟨t, h, q⟩ := hbody A outer s H vs Q E hr hsp
  exact ⟨t, h.nox, q⟩
def srt (ts : List Tb) : List Tb := ts.mergeSort (leK Tb.n)
/-- what a system may be made of -/
structure OkSys (d m : Int) (ts : List Tb) : Prop where
  d1 : 1 ≤ d
  d3 : d ≤ 3
  m2 : 2 ≤ m
  l1 : 1 ≤ ts.length
  l6 : ts.length ≤ 6
  ok : OkT d ts
/-- all but the tables of code objects and one object stay -/
def ExtB (s : Addr) (H H' : Hp) : Prop := ∀ b o, H b = some o → b ≠ s → (∀ ps, o ≠ .tbl ps) → H' b = some o
def spInit (K : PySem.W.Frag) (C : Addr) (TT : List (Addr × Str)) : Sp := fun vs H Q _ => ∃ (s dx : Addr) (d m : Int) (v : V) (ts : List Tb), vs = [.ref s, .int d, v, .int m] ∧ H s = some (.ins C dx []) ∧ LamX.Tabs TT H ∧ OkSys d m ts ∧ Dp K H v (.list (ts.map Tb.d)) ∧
  ∀ H', ExtB s H H' → LamX.Tabs TT H' → SysAt K C H' s d m (srt ts) → Q .non H'
theorem ok_init {f C c Pt : Addr} {fd : FuncData} {TT : List (Addr × Str)} (F : FunC K "__init__" "System.__init__" s_System_init f fd c) (T : Txt mg) (TC : TxtC K mg C) (c_check_system : C8.Cal P w K mg base 4 "check_system" (spCheckSystem K) [])
    (TBc : LamX.TabB base mg c Pt) (hmT : (Pt, ("System.__init__.<locals>.<lambda>" : Str)) ∈ TT) (huT : ∀ p ∈ TT, p.1 = Pt → p.2 = ("System.__init__.<locals>.<lambda>" : Str)) : FnOk P w K mg base CX0 5 f fd ["self", "dimensions", "tables", "modulus"] (spInit K C TT) := by
  refine F.ok sc_System_init (fun vs H Q E h => ?_) (fun A outer sh H vs Q E hr h => ?_)
  · obtain ⟨s, dx, d, m, v, ts, rfl, _⟩ := h
    rfl
  · obtain ⟨s, dx, d, m, v, ts, rfl, hs, hT, O, hv, q⟩ := h
    have hu := hu_of hr
    have hcode : (cxOf CX0 P w K mg base ["self", "dimensions", "tables", "modulus", "rows", "name", "constant", "reads"] "System.__init__" (defScope s_System_init) f (.ref c) A outer sh H E).nox.env.code = .ref c := rfl
    refine ⟨_, (pss_cons (ps_expr (C8.pe_c c_check_system hr (by decide) (by rfl) (pa_cons (pv 1) (pa_cons (pv 2) (pa_cons (pv 3) pa_nil)))))
  (pss_cons (ps_fld (pv 0) (pv 1) rfl)
  (pss_cons (ps_fld (pv 0) (pv 3) rfl)
  (pss_cons (ps_set (i := 4) sc_System_init.nd rfl (by first | exact Or.inl rfl | exact Or.inr rfl) (pe_sortKey Tb.n (a := "table") (by rfl) T.b_sorted (pv 2) hr TBc hcode hmT huT rfl ⟨rfl, rfl, rfl, rfl, by decide +kernel, by decide +kernel⟩ (by decide) (fun _ _ _ _ _ _ => rfl)))
  (pss_one (ps_fld (pv 0) (pe_dc (own := [("name", 5), ("constant", 6), ("reads", 7)]) (g := gTup K 3 (gCons (gName 5) (gCons (gName 6) (gCons (gName 7) gNil)))) (tt := tYes) (by rfl) sc_System_init.nd (pi_list (pv 4)) (blkOk_by (N := ["self", "dimensions", "tables", "modulus", "rows", "name", "constant", "reads"]) (sc := defScope s_System_init) (by decide +kernel)) (fun _ _ _ _ _ => (pg_tup rfl (pgs_cons (pg_name (i := 5) sc_System_init.nd rfl (by first | exact Or.inl rfl | exact Or.inr rfl)) (pgs_cons (pg_name (i := 6) sc_System_init.nd rfl (by first | exact Or.inl rfl | exact Or.inr rfl)) (pgs_cons (pg_name (i := 7) sc_System_init.nd rfl (by first | exact Or.inl rfl | exact Or.inr rfl)) pgs_nil))))) (fun _ _ _ _ _ => pts_nil) (fun _ _ _ _ _ => (pv 5)) (fun _ _ _ _ _ => (pe_tup (pa_cons (pv 6) (pa_cons (pe_callTy (r := rTupS K) call_tuple_of (by rfl) T.b_tuple (by decide +kernel) (pa_cons (pv 7) pa_nil)) pa_nil))))) rfl)))))), ?_⟩
    -- check_system(..)
    refine ⟨_, rfl, _, rfl, _, rfl, d, m, v, ts, rfl, O.d1, O.d3, O.m2, hv, O.l1, O.l6, O.ok, fun H1 s1 => ?_⟩
    have hs1 := s1 _ _ hs
    have hT1 := hT.ext s1
    -- self._dimensions, self._modulus
    refine ⟨_, rfl, _, rfl, s, C, dx, _, rfl, hs1, TC.cl, TC.nD, (by show 0 < 1000; decide), ?_⟩
    have hT2 := tabs_ins (o := .ins C dx (putF "_dimensions" (.int d) [])) hT1 hs1
    have d2 : SD H (upd H1 s (.ins C dx (putF "_dimensions" (.int d) []))) := SD.upd (.of s1) hs1 rfl
    have e2 : ExtB s H (upd H1 s (.ins C dx (putF "_dimensions" (.int d) []))) := fun b o h nb _ => by
      rw [upd_ne nb]
      exact s1 b o h
    have hs2 : (upd H1 s (.ins C dx (putF "_dimensions" (.int d) []))) s = some (.ins C dx (putF "_dimensions" (.int d) [])) := upd_same
    generalize upd H1 s (.ins C dx (putF "_dimensions" (.int d) [])) = H2 at hT2 d2 e2 hs2 ⊢
    refine ⟨_, rfl, _, rfl, s, C, dx, _, rfl, hs2, TC.cl, TC.nM, (by show 1 < 1000; decide), ?_⟩
    have hT3 := tabs_ins (o := .ins C dx (putF "_modulus" (.int m) (putF "_dimensions" (.int d) []))) hT2 hs2
    have d3 : SD H (upd H2 s (.ins C dx (putF "_modulus" (.int m) (putF "_dimensions" (.int d) [])))) := SD.upd d2 hs2 rfl
    have e3 : ExtB s H (upd H2 s (.ins C dx (putF "_modulus" (.int m) (putF "_dimensions" (.int d) [])))) := fun b o h nb nt => by
      rw [upd_ne nb]
      exact e2 b o h nb nt
    have hs3 : (upd H2 s (.ins C dx (putF "_modulus" (.int m) (putF "_dimensions" (.int d) [])))) s = some (.ins C dx (putF "_modulus" (.int m) (putF "_dimensions" (.int d) []))) := upd_same
    generalize upd H2 s (.ins C dx (putF "_modulus" (.int m) (putF "_dimensions" (.int d) []))) = H3 at hT3 d3 e3 hs3 ⊢
    -- rows = sorted(..)
    obtain ⟨a, xs, rfl, ha, hd⟩ := dlst hv
    have hxl : xs.length = ts.length := by rw [dps_len hd, List.length_map]
    have hfst : (xs.zip ts).map Prod.fst = xs := by rw [List.map_fst_zip]; omega
    have hsnd : (xs.zip ts).map Prod.snd = ts := by rw [List.map_snd_zip]; omega
    have hbs : ∀ y ∈ xs.zip ts, Dp K H3 y.1 y.2.d := fun y hy => by
      obtain ⟨i, hi⟩ := List.mem_iff_getElem?.mp hy
      obtain ⟨h1, h2⟩ := List.getElem?_zip_eq_some.mp hi
      obtain ⟨t, _, _, _, e1, _⟩ := tb_at hd h1
      obtain ⟨dd, f1, f2⟩ := dps_get hd h1
      rw [List.getElem?_map, h2] at f1
      cases f1
      exact dpd d3 _ _ f2
    refine ⟨_, rfl, a, xs.zip ts, rfl, (by rw [hfst]; exact sqld d3 ha), hT3, fun y hy => ?_, fun H4 x4 hT4 p hp => ?_⟩
    · obtain ⟨b, zs, e1, ht, hz⟩ := dtup (hbs y hy)
      obtain ⟨z1, z2, z3, rfl, g1, g2, g3⟩ := dps3 hz
      obtain rfl := dstr g1
      exact ⟨b, [z2, z3], e1, ht⟩
    · have hsrt : ((xs.zip ts).mergeSort (leK fun y => y.2.n)).map Prod.snd = srt ts := by
        rw [show (leK fun y : V × Tb => y.2.n) = fun a b => leK Tb.n a.2 b.2 from rfl]
        rw [List.map_mergeSort (r := fun a b : V × Tb => leK Tb.n a.2 b.2) (s := leK Tb.n) (f := Prod.snd) (fun _ _ _ _ => rfl), hsnd]
        rfl
      have hmem : ∀ y ∈ (xs.zip ts).mergeSort (leK fun y => y.2.n), Dp K H4 y.1 y.2.d := fun y hy => dpd (.ext x4) _ _ (hbs y (List.mem_mergeSort.mp hy))
      generalize hL : (xs.zip ts).mergeSort (leK fun y => y.2.n) = bs at hsrt hmem ⊢
      have hbl : bs.length = ts.length := by rw [← hL, List.length_mergeSort, List.length_zip]; omega
      have hs4 : H4 s = some (.ins C dx (putF "_modulus" (.int m) (putF "_dimensions" (.int d) []))) := x4 _ _ hs3 fun ps z => by cases z
      have s5 : Same H4 (upd H4 p (.lst (bs.map Prod.fst))) := snew hp
      have hnd : (bs.map fun y => y.2.n).Nodup := by
        have e : (bs.map fun y => y.2.n) = (srt ts).map (·.n) := by
          rw [← hsrt, List.map_map]
          rfl
        rw [e]
        exact ((List.mergeSort_perm ts (leK Tb.n)).map (·.n)).nodup_iff.mpr O.ok.nodup
      -- self._tables = {..}
      refine ⟨_, rfl, p, rfl, ⟨_, Or.inl (Or.inl upd_same)⟩, fun D hD => dc_it (walk_list (K := K) (a := p) (xs := bs.map Prod.fst)) (fun i H' => ∃ (B : Hp) (kvs : List (Key × V)), Same (upd H4 p (.lst (bs.map Prod.fst))) B ∧ B D = none ∧ Same B H' ∧ H' D = some (.dK kvs) ∧ KvAt K B kvs ((srt ts).take i))
        ⟨_, [], same_refl, hD, snew hD, upd_same, .nil⟩ (fun i H' _ ⟨B, kvs, b1, b2, b3, _⟩ => sql b3 (sql b1 (Or.inl (Or.inl upd_same)))) ?_ ?_⟩
      · rintro i x _ Hi hi ⟨B, kvs, b1, b2, b3, b4, b5⟩ ⟨rfl, hx⟩
        rw [List.getElem?_map] at hx
        obtain ⟨y, hy, rfl⟩ := Option.map_eq_some_iff.mp hx
        have hyd := dpm b1 _ _ (dpm s5 _ _ (hmem y (List.mem_of_getElem? hy)))
        obtain ⟨b, zs, e1, ht, hz⟩ := dtup hyd
        obtain ⟨z1, z2, z3, rfl, g1, g2, g3⟩ := dps3 hz
        obtain rfl := dstr g1
        obtain rfl := dint g2
        obtain ⟨l, ys, rfl, hl, hys⟩ := dlst g3
        have hsi : (srt ts)[i]? = some y.2 := by
          rw [← hsrt, List.getElem?_map, hy]
          rfl
        refine ⟨b, _, e1, sqt b3 ht, rfl, _, _, rfl, _, _, rfl, _, _, rfl, rfl, rfl, ?_⟩
        refine ⟨_, rfl, _, rfl, _, rfl, l, ys, rfl, Or.inl ⟨sql b3 hl, fun q1 hq1 => ?_⟩⟩
        refine ⟨(by show 2 ≤ sizeLine; decide), fun q2 hq2 => ?_⟩
        have nq1 : q1 ≠ D := fun z => by
          rw [z, b4] at hq1
          cases hq1
        have nq2 : q2 ≠ D := fun z => by
          rw [z, upd_ne nq1.symm, b4] at hq2
          cases hq2
        have bq1 : B q1 = none := free_of b3 hq1
        have c1 : Same (upd B q1 (.tup ys)) (upd Hi q1 (.tup ys)) := fun c o h => by
          by_cases hc : c = q1
          · rw [hc, upd_same] at h ⊢
            exact h
          · rw [upd_ne hc] at h ⊢
            exact b3 c o h
        have bq2 : (upd B q1 (.tup ys)) q2 = none := free_of c1 hq2
        have c2 : Same (upd (upd B q1 (.tup ys)) q2 (.tup [.int y.2.c, .ref q1])) (upd (upd Hi q1 (.tup ys)) q2 (.tup [.int y.2.c, .ref q1])) := fun c o h => by
          by_cases hc : c = q2
          · rw [hc, upd_same] at h ⊢
            exact h
          · rw [upd_ne hc] at h ⊢
            exact c1 c o h
        have bb : Same B (upd (upd B q1 (.tup ys)) q2 (.tup [.int y.2.c, .ref q1])) := same_tr (snew bq1) (snew bq2)
        have bD : (upd (upd B q1 (.tup ys)) q2 (.tup [.int y.2.c, .ref q1])) D = none := by
          rw [upd_ne nq2.symm, upd_ne nq1.symm]
          exact b2
        have hDv : (upd (upd Hi q1 (.tup ys)) q2 (.tup [.int y.2.c, .ref q1])) D = some (.dK kvs) := by
          rw [upd_ne nq2.symm, upd_ne nq1.symm]
          exact b4
        have hkl : kvs.length ≤ 6 := by
          rw [b5.len, List.length_take]
          have := O.l6
          have : (srt ts).length = ts.length := List.length_mergeSort _
          omega
        refine ⟨kvs, Sum.inr y.2.n, rfl, hDv, small1000 (by omega), ?_⟩
        have hno : valV kvs (Sum.inr y.2.n) = none := b5.noVal (by
          have e : ((srt ts).take i).map (·.n) = (bs.map fun y => y.2.n).take i := by
            rw [← hsrt, List.map_take, List.map_map]
            rfl
          rw [e]
          exact notin_take hnd (by rw [List.getElem?_map, hy]; rfl))
        refine ⟨_, kvs ++ [(Sum.inr y.2.n, .ref q2)], same_tr b1 bb, bD, ?_, ?_, ?_⟩
        · intro c o h
          have hc : c ≠ D := fun z => by
            rw [z, bD] at h
            cases h
          rw [upd_ne hc]
          exact c2 c o h
        · rw [upd_same, putK_new _ hno]
        · rw [List.take_add_one, hsi]
          refine KvAt.app (b5.mono bb) (.cons ⟨rfl, ?_⟩ .nil)
          refine .tup (Or.inl (Or.inl upd_same)) (.cons (.int _) (.cons (.tup (Or.inl (Or.inl ?_)) (dpsm bb _ _ hys)) .nil))
          rw [upd_ne (ne_of_none upd_same bq2)]
          exact upd_same
      · rintro Hf ⟨B, kvs, b1, b2, b3, b4, b5⟩
        have hlen : (bs.map Prod.fst).length = (srt ts).length := by rw [← hsrt, List.length_map, List.length_map]
        rw [hlen, List.take_length] at b5
        have sf : Same H4 Hf := same_tr s5 (same_tr b1 b3)
        have hsf := sf _ _ hs4
        refine ⟨_, rfl, s, C, dx, _, rfl, hsf, TC.cl, TC.nT, (by show 2 < 1000; decide), ?_⟩
        refine q _ (fun b o h nb nt => ?_) (tabs_ins (hT4.ext sf) hsf) ⟨dx, D, kvs, upd_same, ?_, ?_⟩
        · rw [upd_ne nb]
          exact sf _ _ (x4 _ _ (e3 b o h nb nt) nt)
        · rw [upd_ne fun z => by
            rw [z, hsf] at b4
            cases b4]
          exact b4
        · exact b5.monoD (SD.upd (.of b3) hsf rfl)
end
end Fr

namespace Fr
open PySem PySem.Spec PyProof.Rows L2
abbrev s_Lrng : Stmt := topS 29
theorem sc_Lrng : FnScope ["_law_script", "_law_digits", "_law_seed", "_law_number", "_law_far"] ["_law_script"] (defScope s_Lrng) := ⟨rfl, rfl, rfl, by decide +kernel, rfl, by decide +kernel, by decide +kernel⟩
-- slots: 0 _law_script, 1 _law_digits, 2 _law_seed, 3 _law_number, 4 _law_far
abbrev s_Lmixed : Stmt := topS 31
theorem sc_Lmixed : FnScope ["_law_rng_here", "_law_some", "_law_left", "_law_turned"] ["_law_rng_here", "_law_some"] (defScope s_Lmixed) := ⟨rfl, rfl, rfl, by decide +kernel, rfl, by decide +kernel, by decide +kernel⟩
-- slots: 0 _law_rng_here, 1 _law_some, 2 _law_left, 3 _law_turned
abbrev s_Lvector : Stmt := topS 32
theorem sc_Lvector : FnScope ["_law_rng_here", "_law_dims", "_law_wide", "_law_some", "_law_axis"] ["_law_rng_here", "_law_dims", "_law_wide"] (defScope s_Lvector) := ⟨rfl, rfl, rfl, by decide +kernel, rfl, by decide +kernel, by decide +kernel⟩
-- slots: 0 _law_rng_here, 1 _law_dims, 2 _law_wide, 3 _law_some, 4 _law_axis
abbrev s_Ldraw : Stmt := topS 30
theorem sc_Ldraw : FnScope ["_law_rng_here", "_law_limit", "_law_digit", "_law_blend"] ["_law_rng_here", "_law_limit"] (defScope s_Ldraw) := ⟨rfl, rfl, rfl, by decide +kernel, rfl, by decide +kernel, by decide +kernel⟩
-- slots: 0 _law_rng_here, 1 _law_limit, 2 _law_digit, 3 _law_blend
/-- the state of the draws: digits, seed, counter -/
structure RngN (a b c : Int) (m : Nat) : Prop where
  a0 : 0 ≤ a
  a1 : a.natAbs < 2 ^ 20000
  b0 : 0 ≤ b
  b1 : b < 2 ^ 62
  c0 : 0 ≤ c
  c1 : c ≤ m
def RngOk (H : Hp) (r : Addr) (m : Nat) : Prop := ∃ a b c : Int, H r = some (.lst [.int a, .int b, .int c]) ∧ RngN a b c m
theorem RngN.mono {a b c : Int} {m m' : Nat} (h : RngN a b c m) (e : m ≤ m') : RngN a b c m' := ⟨h.a0, h.a1, h.b0, h.b1, h.c0, by have := h.c1; omega⟩
theorem RngOk.mono {H : Hp} {r : Addr} {m m' : Nat} (h : RngOk H r m) (e : m ≤ m') : RngOk H r m' := by
  obtain ⟨a, b, c, h1, h2⟩ := h
  exact ⟨a, b, c, h1, h2.mono e⟩
theorem atI_in {α : Type} {xs : List α} {i : Int} (h0 : 0 ≤ i) (h1 : i < xs.length) : ∃ v, atI xs i = some v ∧ v ∈ xs ∧ xs[i.toNat]? = some v := by
  have h2 : i.toNat < xs.length := by omega
  have e := List.getElem?_eq_getElem h2
  refine ⟨xs[i.toNat], ?_, List.getElem_mem h2, e⟩
  have := atI_nat e
  rw [Int.toNat_of_nonneg h0] at this
  exact this
theorem cut_take (xs : List V) (i : Nat) : cutV xs none (some (i : Int)) = xs.take i := by
  unfold cutV
  rw [show HT.sIx xs.length xs.length (some (i : Int)) = min i xs.length from HT.sIx_nat xs.length xs.length i, HT.sIx_none, List.drop_zero, Nat.sub_zero]
  exact (List.take_eq_take_min).symm
theorem cut_all (xs : List V) (i : Nat) (h : xs.length ≤ i) : cutV xs none (some (i : Int)) = xs := by
  unfold cutV
  rw [show HT.sIx xs.length xs.length (some (i : Int)) = min i xs.length from HT.sIx_nat xs.length xs.length i, HT.sIx_none, List.drop_zero, Nat.sub_zero, Nat.min_eq_right h, List.take_length]
theorem p1060 : ((10 : Int) ^ ((60 : Int).toNat)).natAbs < 2 ^ 200 := by decide +kernel
theorem p1060' : ((10 : Int) ^ ((60 : Int).toNat)) < 2 ^ 200 := by decide +kernel
theorem pos1 : (0 : Int) < 2305843009213693921 := by decide
theorem pos2 : (0 : Int) < 2305843009213693951 := by decide
theorem p1060p : 0 < ((10 : Int) ^ ((60 : Int).toNat)) := by decide +kernel
section
variable {P : Program} {w : World} {K : PySem.W.Frag} {mg : Str → Option Value} {base : Heap}
def spRng (K : PySem.W.Frag) : Sp := fun vs H Q _ => ∃ (a : Addr) (ns : List Int), vs = [.ref a] ∧ SqL K H a (ns.map V.int) ∧ ns.length ≤ 63 ∧ ∀ p H', H p = none → Same H H' → RngOk H' p 0 → Q (.ref p) H'
theorem dig_step {dg f t : Int} {i : Nat} (h0 : 0 ≤ dg) (h1 : dg < 2 ^ (200 * i)) (hp : 0 < t) (ht : t < 2 ^ 200) : 0 ≤ dg * t + f % t ∧ dg * t + f % t < 2 ^ (200 * (i + 1)) := by
  have e0 := Int.emod_nonneg f (Int.ne_of_gt hp)
  have e1 := Int.emod_lt_of_pos f hp
  have e2 : 0 ≤ dg * t := Int.mul_nonneg h0 (Int.le_of_lt hp)
  refine ⟨by omega, ?_⟩
  have e3 : dg * t + f % t < (dg + 1) * t := by
    rw [Int.add_mul, Int.one_mul]
    omega
  have e4 : (dg + 1) * t ≤ 2 ^ (200 * i) * 2 ^ 200 := Int.mul_le_mul h1 (Int.le_of_lt ht) (Int.le_of_lt hp) (Int.pow_nonneg (by decide))
  have e5 : (2 : Int) ^ (200 * (i + 1)) = 2 ^ (200 * i) * 2 ^ 200 := by
    rw [← Int.pow_add]
    congr 1
  rw [e5]
  exact Int.lt_of_lt_of_le e3 e4
theorem nat_lt_of {x : Int} {n : Nat} (h0 : 0 ≤ x) (h : x < 2 ^ n) : x.natAbs < 2 ^ n := by
  have e : (x.natAbs : Int) = x := Int.natAbs_of_nonneg h0
  have h' : (x.natAbs : Int) < ((2 ^ n : Nat) : Int) := by
    rw [e]
    push_cast
    exact h
  exact Int.ofNat_lt.mp h'
theorem dig_mono {x : Int} {i j : Nat} (h : x < 2 ^ (200 * i)) (e : i ≤ j) : x < 2 ^ (200 * j) := by
  refine Int.lt_of_lt_of_le h ?_
  have z : (2 : Nat) ^ (200 * i) ≤ 2 ^ (200 * j) := Nat.pow_le_pow_right (by decide) (by omega)
  have z' : ((2 ^ (200 * i) : Nat) : Int) ≤ ((2 ^ (200 * j) : Nat) : Int) := Int.ofNat_le.mpr z
  push_cast at z'
  exact z'
theorem ok_rng {f : Addr} {fd : FuncData} (F : Fun K "_law_rng" "_law_rng" s_Lrng f fd) (T : Txt mg) : FnOk P w K mg base CX0 1 f fd ["_law_script"] (spRng K) := by
  refine F.ok sc_Lrng (fun vs H Q E h => ?_) (fun cdv A outer sh H vs Q E hr h => ?_)
  · obtain ⟨a, ns, rfl, _⟩ := h
    rfl
  · obtain ⟨a, ns, rfl, ha, hl, q⟩ := h
    refine ⟨_, (pss_cons (ps_asg (pe_tup (pa_cons pe_int (pa_cons pe_int pa_nil))) (pg_tup rfl (pgs_cons (pg_name (i := 1) sc_Lrng.nd rfl (by first | exact Or.inl rfl | exact Or.inr rfl)) (pgs_cons (pg_name (i := 2) sc_Lrng.nd rfl (by first | exact Or.inl rfl | exact Or.inr rfl)) pgs_nil))))
  (pss_cons (ps_for PassesOwn.never rfl (pi_list (pe_slice sl_list (pv 0) po_none (po_some pe_int))) (pg_name (i := 3) sc_Lrng.nd rfl (by first | exact Or.inl rfl | exact Or.inr rfl))
    (pss_cons (ps_set (i := 4) sc_Lrng.nd rfl (by first | exact Or.inl rfl | exact Or.inr rfl) (pe_callB call_abs (by rfl) T.b_abs (by decide +kernel) (pa_cons (pv 3) pa_nil)))
    (pss_cons (ps_if (pt_cmpR op_ge (pv 4) (pe_op op_pow pe_int pe_int) (nomark _))
      (pss_one (ps_set (i := 1) sc_Lrng.nd rfl (by first | exact Or.inl rfl | exact Or.inr rfl) (pe_op op_add (pe_op op_mulW (pv 1) (pe_op op_pow pe_int pe_int)) (pe_op op_mod (pe_callTy call_int1 (by rfl) T.b_int (by decide +kernel) (pa_cons (pv 4) pa_nil)) (pe_op op_pow pe_int pe_int)))))
      pss_nil)
    (pss_one (ps_set (i := 2) sc_Lrng.nd rfl (by first | exact Or.inl rfl | exact Or.inr rfl) (pe_op op_mod (pe_callTy call_int1 (by rfl) T.b_int (by decide +kernel) (pa_cons (pe_op op_add (pe_op op_add (pe_op op_mulW (pv 2) pe_int) (pe_op op_mod (pe_callTy call_int1 (by rfl) T.b_int (by decide +kernel) (pa_cons (pv 3) pa_nil)) pe_int)) pe_int) pa_nil)) pe_int))))))
  (pss_one (ps_ret (pe_lst (pa_cons (pv 1) (pa_cons (pv 2) (pa_cons pe_int pa_nil)))))))), ?_⟩
    refine ⟨(by show 2 ≤ sizeLine; decide), fun p0 hp0 => ⟨p0, _, rfl, Or.inl (Or.inl upd_same), rfl, _, _, rfl, _, _, rfl, rfl, ?_⟩⟩
    have s0 : Same H (upd H p0 (.tup [.int 0, .int 88675123])) := snew hp0
    have ha := sql s0 ha
    generalize upd H p0 (.tup [.int 0, .int 88675123]) = H0 at s0 ha ⊢
    refine ⟨_, rfl, 63, rfl, a, _, rfl, ha, fun p hp => ?_⟩
    have hc : cutV (ns.map V.int) none (some 63) = ns.map V.int := cut_all _ 63 (by rw [List.length_map]; exact hl)
    rw [hc]
    have s1 : Same H (upd H0 p (.lst (ns.map V.int))) := same_tr s0 (snew hp)
    have hp1 : (upd H0 p (.lst (ns.map V.int))) p = some (.lst (ns.map V.int)) := upd_same
    generalize upd H0 p (.lst (ns.map V.int)) = H1 at s1 hp1 ⊢
    refine ⟨p, rfl, ⟨_, Or.inl (Or.inl hp1)⟩, for_it (walk_list (K := K) (a := p) (xs := ns.map V.int)) (fun i σ H' => ∃ dg sd y3 y4, σ = [some (.ref a), some (.int dg), some (.int sd), y3, y4] ∧ 0 ≤ dg ∧ dg < 2 ^ (200 * i) ∧ 0 ≤ sd ∧ sd < 2 ^ 62 ∧ H' = H1)
      ⟨0, 88675123, none, none, rfl, by decide, by decide, by decide, by decide, rfl⟩ (fun i σ H' _ ⟨_, _, _, _, _, _, _, _, _, e⟩ => by rw [e]; exact Or.inl (Or.inl hp1)) ?_ ?_⟩
    · rintro i y σ _ H2 hi ⟨dg, sd, y3, y4, rfl, d0, d1, sd0, sd1, rfl⟩ ⟨rfl, hy⟩
      rw [List.getElem?_map] at hy
      obtain ⟨n, hn, rfl⟩ := Option.map_eq_some_iff.mp hy
      rw [List.length_map] at hi
      refine ⟨_, rfl, n, rfl, ?_⟩
      refine ⟨_, rfl, 10, 18, rfl, rfl, ⟨by decide, by decide, by decide⟩, _, _, rfl, rfl, _, rfl, ?_⟩
      have wsd : (sd : Int).natAbs < 2 ^ 100000 := nat_lt_of (n := 100000) sd0 (Int.lt_trans sd1 (by decide +kernel))
      refine ite2 (fun hq => ?_) (fun hq => ?_)
      · have wdg : dg.natAbs < 2 ^ 20000 := nat_lt_of (n := 20000) d0 (dig_mono d1 (show i ≤ 100 by omega))
        refine ⟨_, rfl, 10, 60, rfl, rfl, ⟨by decide, by decide, by decide⟩, dg, _, rfl, rfl, wide_mul (a := 20000) (b := 200) wdg p1060 (by decide) (by decide) (by decide), _, rfl, Or.inl ⟨_, rfl, 10, 60, rfl, rfl, ⟨by decide, by decide, by decide⟩, _, _, rfl, rfl, p1060p, _, _, rfl, rfl, ?_⟩⟩
        obtain ⟨e1, e2⟩ := dig_step (f := if n < 0 then -n else n) d0 d1 p1060p p1060'
        refine ⟨_, rfl, sd, 1000003, rfl, rfl, wide_mul (a := 100000) (b := 100) wsd (by decide) (by decide) (by decide) (by decide), _, rfl, Or.inl ⟨n, rfl, n, _, rfl, rfl, pos1, _, _, rfl, rfl, _, _, rfl, rfl, Or.inl ⟨_, rfl, _, _, rfl, rfl, pos2, ?_⟩⟩⟩
        exact ⟨_, _, _, _, rfl, e1, e2, Int.emod_nonneg _ (by decide), Int.lt_trans (Int.emod_lt_of_pos _ (by decide)) (by decide), rfl⟩
      · refine ⟨_, rfl, sd, 1000003, rfl, rfl, wide_mul (a := 100000) (b := 100) wsd (by decide) (by decide) (by decide) (by decide), _, rfl, Or.inl ⟨n, rfl, n, _, rfl, rfl, pos1, _, _, rfl, rfl, _, _, rfl, rfl, Or.inl ⟨_, rfl, _, _, rfl, rfl, pos2, ?_⟩⟩⟩
        exact ⟨_, _, _, _, rfl, d0, dig_mono d1 (by omega), Int.emod_nonneg _ (by decide), Int.lt_trans (Int.emod_lt_of_pos _ (by decide)) (by decide), rfl⟩
    · rintro σ H2 ⟨dg, sd, y3, y4, rfl, d0, d1, sd0, sd1, rfl⟩
      rw [List.length_map] at d1
      refine ⟨_, rfl, _, rfl, (by show 3 ≤ sizeLine; decide), fun r hr' => ?_⟩
      refine q r _ (free_of s1 hr') (same_tr s1 (snew hr')) ⟨dg, sd, 0, upd_same, d0, ?_, sd0, sd1, by decide, by decide⟩
      have := dig_mono d1 (show ns.length ≤ 100 by omega)
      exact nat_lt_of (n := 20000) d0 this
/-- only the state of the draws changed -/
structure Dr (r : Addr) (m : Nat) (H H' : Hp) : Prop where
  ne : ∀ b, b ≠ r → H' b = H b
  ok : RngOk H' r m
structure RS (r : Addr) (m : Nat) (B H : Hp) : Prop where
  s : Same B H
  n : B r = none
  ok : RngOk H r m
theorem RS.dr {r : Addr} {m m' : Nat} {B H H' : Hp} (h : RS r m B H) (d : Dr r m' H H') : RS r m' B H' := ⟨fun b o e => by
  rw [d.ne b (ne_of_none e h.n)]
  exact h.s b o e, h.n, d.ok⟩
theorem RngOk.at {r : Addr} {m : Nat} {H H' : Hp} (h : RngOk H r m) (e : H' r = H r) : RngOk H' r m := by
  obtain ⟨a, b, c, h1, h2⟩ := h
  exact ⟨a, b, c, by rw [e, h1], h2⟩
theorem RngOk.some {r : Addr} {m : Nat} {H : Hp} (h : RngOk H r m) : ∃ o, H r = some o := by
  obtain ⟨a, b, c, h1, h2⟩ := h
  exact ⟨_, h1⟩
theorem RngOk.new {r p : Addr} {m : Nat} {H : Hp} {o : HO} (h : RngOk H r m) (e : H p = none) : RngOk (upd H p o) r m := by
  obtain ⟨o', ho⟩ := h.some
  exact h.at (upd_ne (ne_of_none ho e))
theorem RS.new {r p : Addr} {m : Nat} {B H : Hp} {o : HO} (h : RS r m B H) (e : H p = none) : RS r m B (upd H p o) := ⟨same_tr h.s (snew e), h.n, h.ok.new e⟩
theorem RS.put {r p : Addr} {m : Nat} {B H : Hp} {o : HO} (h : RS r m B H) (e : B p = none) (n : r ≠ p) : RS r m B (upd H p o) := ⟨swrite h.s e, h.n, h.ok.at (upd_ne n)⟩
/-- a new thing that stays -/
theorem RS.keep {r p : Addr} {m : Nat} {B H : Hp} {o : HO} (h : RS r m B H) (e : H p = some o) (k : B p = none) (n : r ≠ p) : RS r m (upd B p o) H := ⟨fun b x q => by
  by_cases hb : b = p
  · rw [hb, upd_same] at q
    rw [hb, e, q]
  · rw [upd_ne hb] at q
    exact h.s b x q, by rw [upd_ne n]; exact h.n, h.ok⟩
theorem RS.ne {r p : Addr} {m : Nat} {B H : Hp} (h : RS r m B H) (e : H p = none) : r ≠ p := by
  obtain ⟨o', ho⟩ := h.ok.some
  exact ne_of_none ho e
theorem RS.mono {r : Addr} {m m' : Nat} {B H : Hp} (h : RS r m B H) (e : m ≤ m') : RS r m' B H := ⟨h.s, h.n, h.ok.mono e⟩
def spDraw : Sp := fun vs H Q _ => ∃ (r : Addr) (lim : Int) (m : Nat), vs = [.ref r, .int lim] ∧ RngOk H r m ∧ m ≤ 2 ^ 60 ∧ 0 < lim ∧ lim.natAbs < 2 ^ 200 ∧ ∀ d H', 0 ≤ d → d < lim → Dr r (m + 1) H H' → Q (.int d) H'
theorem pos3 : (0 : Int) < 162259276829213363391578010288127 := by decide
theorem pos4 : (0 : Int) < 170141183460469231731687303715884105727 := by decide
theorem pos5 : (0 : Int) < 1048576 := by decide
theorem ok_draw {f : Addr} {fd : FuncData} (F : Fun K "_law_draw" "_law_draw" s_Ldraw f fd) (T : Txt mg) : FnOk P w K mg base CX0 1 f fd ["_law_rng_here", "_law_limit"] spDraw := by
  refine F.ok sc_Ldraw (fun vs H Q E h => ?_) (fun cdv A outer sh H vs Q E hr h => ?_)
  · obtain ⟨r, lim, m, rfl, _⟩ := h
    rfl
  · obtain ⟨r, lim, m, rfl, ⟨a, b, c, hR, N⟩, hm, l0, l1, q⟩ := h
    refine ⟨_, (pss_cons (ps_if (pt_cmpR op_gt (pe_ix ix_list (pv 0) pe_int (fun _ _ => rfl)) pe_int (nomark _))
    (pss_cons (ps_set (i := 2) sc_Ldraw.nd rfl (by first | exact Or.inl rfl | exact Or.inr rfl) (pe_op op_mod (pe_callTy call_int1 (by rfl) T.b_int (by decide +kernel) (pa_cons (pe_ix ix_list (pv 0) pe_int (fun _ _ => rfl)) pa_nil)) (pv 1)))
    (pss_cons (ps_asg (pe_op op_fdivW (pe_ix ix_list (pv 0) pe_int (fun _ _ => rfl)) (pv 1)) (pg_sub (pv 0) pe_int set_list))
    (pss_one (ps_ret (pv 2)))))
    pss_nil)
  (pss_cons (ps_asg (pe_op op_add (pe_ix ix_list (pv 0) pe_int (fun _ _ => rfl)) pe_int) (pg_sub (pv 0) pe_int set_list))
  (pss_cons (ps_set (i := 3) sc_Ldraw.nd rfl (by first | exact Or.inl rfl | exact Or.inr rfl) (pe_op op_mod (pe_callTy call_int1 (by rfl) T.b_int (by decide +kernel) (pa_cons (pe_op op_powW (pe_op op_add (pe_ix ix_list (pv 0) pe_int (fun _ _ => rfl)) (pe_op op_mulW pe_int (pe_ix ix_list (pv 0) pe_int (fun _ _ => rfl)))) pe_int) pa_nil)) pe_int))
  (pss_cons (ps_set (i := 3) sc_Ldraw.nd rfl (by first | exact Or.inl rfl | exact Or.inr rfl) (pe_op op_mod (pe_callTy call_int1 (by rfl) T.b_int (by decide +kernel) (pa_cons (pe_op op_powW (pe_op op_add (pv 3) (pe_op op_mulW pe_int (pe_ix ix_list (pv 0) pe_int (fun _ _ => rfl)))) pe_int) pa_nil)) pe_int))
  (pss_one (ps_ret (pe_op op_mod (pe_callTy call_int1 (by rfl) T.b_int (by decide +kernel) (pa_cons (pe_op op_fdivW (pv 3) pe_int) pa_nil)) (pv 1)))))))), ?_⟩
    have sq : SqL K H r [.int a, .int b, .int c] := Or.inl (Or.inl hR)
    refine ⟨_, rfl, r, _, 0, _, rfl, rfl, sq, rfl, a, 0, rfl, rfl, decide (0 < a), rfl, ?_⟩
    refine ite2 (fun h0 => ?_) (fun h0 => ?_)
    · have h0 : 0 < a := of_decide_eq_true h0
      refine ⟨_, rfl, r, _, 0, _, rfl, rfl, sq, rfl, Or.inl ⟨a, rfl, _, rfl, a, lim, rfl, rfl, l0, ?_⟩⟩
      refine ⟨_, rfl, r, _, 0, _, rfl, rfl, sq, rfl, _, rfl, a, lim, rfl, rfl, wide_div l0 l1 (by decide) (by decide), ?_⟩
      · refine ⟨_, rfl, r, _, 0, 0, rfl, rfl, hR, rfl, ?_⟩
        refine ⟨_, rfl, q _ _ (Int.emod_nonneg _ (Int.ne_of_gt l0)) (Int.emod_lt_of_pos _ l0) ⟨fun x hx => upd_ne hx, _, b, c, upd_same, ?_⟩⟩
        refine ⟨Int.ediv_nonneg N.a0 (Int.le_of_lt l0), ?_, N.b0, N.b1, N.c0, by have := N.c1; omega⟩
        refine Nat.lt_of_le_of_lt ?_ N.a1
        have e1 := Int.ediv_le_self lim (a := a) N.a0
        have e0 := Int.ediv_nonneg N.a0 (Int.le_of_lt l0)
        omega
    · have hc : (c + 1).natAbs < 2 ^ 100 := by
        have h1 := N.c0
        have h2 := N.c1
        omega
      have hcc : c + 1 ≤ ((m + 1 : Nat) : Int) := by
        have h2 := N.c1
        omega
      refine ⟨_, rfl, r, _, 2, _, rfl, rfl, sq, rfl, c, 1, rfl, rfl, _, rfl, r, _, 2, 2, rfl, rfl, hR, rfl, ?_⟩
      have dr : Dr r (m + 1) H (upd H r (.lst [.int a, .int b, .int (c + 1)])) := ⟨fun x hx => upd_ne hx, a, b, c + 1, upd_same, ⟨N.a0, N.a1, N.b0, N.b1, by have := N.c0; omega, hcc⟩⟩
      have hR' : (upd H r (.lst [.int a, .int b, .int (c + 1)])) r = some (.lst [.int a, .int b, .int (c + 1)]) := upd_same
      have sq2 : SqL K (upd H r (.lst [.int a, .int b, .int (c + 1)])) r [.int a, .int b, .int (c + 1)] := Or.inl (Or.inl hR')
      have c0 := N.c0
      have b0 := N.b0
      have b1 := N.b1
      have hc9 : c + 1 < 2 ^ 100 := by omega
      have w1 : (b + 998244353 * (c + 1)).natAbs < 2 ^ 1000000 := Nat.lt_of_lt_of_le (m := 2 ^ 200) (by omega) (Nat.pow_le_pow_right (by decide) (by decide))
      refine ⟨_, rfl, r, _, 1, _, rfl, rfl, sq2, rfl, _, rfl, r, _, 2, _, rfl, rfl, sq2, rfl, _, _, rfl, rfl, wide_mul (a := 100) (b := 100) (by decide) hc (by decide) (by decide) (by decide), _, _, rfl, rfl, _, 3, rfl, rfl, ⟨by decide, by decide, w1⟩, Or.inl ⟨_, rfl, _, _, rfl, rfl, pos3, ?_⟩⟩
      have x0 := Int.emod_nonneg ((b + 998244353 * (c + 1)) ^ 3) (Int.ne_of_gt pos3)
      have x1 := Int.emod_lt_of_pos ((b + 998244353 * (c + 1)) ^ 3) pos3
      have w2 : ((b + 998244353 * (c + 1)) ^ 3 % 162259276829213363391578010288127 + 32452843 * (c + 1)).natAbs < 2 ^ 1000000 := Nat.lt_of_lt_of_le (m := 2 ^ 200) (by omega) (Nat.pow_le_pow_right (by decide) (by decide))
      refine ⟨_, rfl, _, rfl, r, _, 2, _, rfl, rfl, sq2, rfl, _, _, rfl, rfl, wide_mul (a := 100) (b := 100) (by decide) hc (by decide) (by decide) (by decide), _, _, rfl, rfl, _, 3, rfl, rfl, ⟨by decide, by decide, w2⟩, Or.inl ⟨_, rfl, _, _, rfl, rfl, pos4, ?_⟩⟩
      refine ⟨_, rfl, _, _, rfl, rfl, wide_div pos5 (b := 100) (by decide) (by decide) (by decide), Or.inl ⟨_, rfl, _, rfl, _, lim, rfl, rfl, l0, ?_⟩⟩
      exact q _ _ (Int.emod_nonneg _ (Int.ne_of_gt l0)) (Int.emod_lt_of_pos _ l0) dr
end
end Fr

namespace Fr
open PySem PySem.Spec PyProof.Rows L2
/-- all but one place -/
def cutr (H : Hp) (r : Addr) : Hp := fun b => if b = r then none else H b
theorem cutr_ne {H : Hp} {r b : Addr} (h : b ≠ r) : cutr H r b = H b := if_neg h
theorem RS.cut {r : Addr} {m : Nat} {H : Hp} (h : RngOk H r m) : RS r m (cutr H r) H := ⟨fun b o e => by
  unfold cutr at e
  split at e
  · cases e
  · exact e, if_pos rfl, h⟩
section
variable {P : Program} {w : World} {K : PySem.W.Frag} {mg : Str → Option Value} {base : Heap}
def Good (d : PyData) : Prop := d.canLay0 = true ∧ d.depth ≤ 30
theorem goods : ∀ {ds : List PyData}, (∀ d ∈ ds, Good d) → PyData.canLayAll0 ds = true ∧ PyData.depthAll ds ≤ 30
  | [], _ => ⟨by simp [PyData.canLayAll0], by simp [PyData.depthAll]⟩
  | d :: ds, h => by
    obtain ⟨h1, h2⟩ := h d List.mem_cons_self
    obtain ⟨h3, h4⟩ := goods fun e he => h e (List.mem_cons_of_mem _ he)
    exact ⟨by simp [PyData.canLayAll0, h1, h3], by simp [PyData.depthAll]; omega⟩
theorem shaped_list {ds : List PyData} (h : ∀ d ∈ ds, Good d) : SeqAt.shaped (.list ds) = true := by
  obtain ⟨h1, h2⟩ := goods h
  unfold SeqAt.shaped
  rw [Bool.and_eq_true]
  refine ⟨by simpa [PyData.canLay0] using h1, decide_eq_true ?_⟩
  simp [PyData.depth]
  omega
theorem eqv_nil (ds : List PyData) : PyData.eqv (.list ds) (.list []) = ds.isEmpty := by
  cases ds <;> simp [PyData.eqv, PyData.eqvAll]
theorem dps_erase : ∀ {H : Hp} {ds : List PyData} {vs : List V} {k : Nat}, DpAll K H vs ds → DpAll K H (vs.eraseIdx k) (ds.eraseIdx k)
  | _, [], _, _, h => by cases h; exact .nil
  | _, d :: ds, _, 0, h => by
    cases h with
    | cons h1 h2 => exact h2
  | _, d :: ds, _, k + 1, h => by
    cases h with
    | cons h1 h2 => exact .cons h1 (dps_erase h2)
theorem perm_erase {α : Type} : ∀ {xs : List α} {k : Nat} {x : α}, xs[k]? = some x → List.Perm xs (x :: xs.eraseIdx k)
  | [], _, _, h => by cases h
  | y :: xs, 0, x, h => by cases h; exact .refl _
  | y :: xs, k + 1, x, h => by
    have := perm_erase (xs := xs) (k := k) (x := x) (by simpa using h)
    exact (this.cons y).trans (.swap _ _ _)
def spMixed (K : PySem.W.Frag) : Sp := fun vs H Q _ => ∃ (r l : Addr) (m : Nat) (B : Hp) (xs : List V) (ds : List PyData), vs = [.ref r, .ref l] ∧ RS r m B H ∧ SqL K B l xs ∧ DpAll K B xs ds ∧ (∀ d ∈ ds, Good d) ∧ ds.length ≤ 1000 ∧ m ≤ 2 ^ 59 ∧
  ∀ p H' ys es, B p = none → r ≠ p → List.Perm ds es → DpAll K B ys es → RS r (m + ds.length) (upd B p (.lst ys)) H' → Q (.ref p) H'
theorem ok_mixed {f : Addr} {fd : FuncData} (F : Fun K "_law_mixed" "_law_mixed" s_Lmixed f fd) (T : Txt mg) (c_Ldraw : C8.Cal P w K mg base 1 "_law_draw" spDraw []) : FnOk P w K mg base CX0 2 f fd ["_law_rng_here", "_law_some"] (spMixed K) := by
  refine F.ok sc_Lmixed (fun vs H Q E h => ?_) (fun cdv A outer sh H vs Q E hr h => ?_)
  · obtain ⟨r, l, m, B, xs, ds, rfl, _⟩ := h
    rfl
  · obtain ⟨r, l, m, B, xs, ds, rfl, R, hl, hd, hg, hlen, hm, q⟩ := h
    have hxl := dps_len hd
    refine ⟨_, (pss_cons (ps_par (i := 2) (j := 3) (by rfl) sc_Lmixed.nd rfl rfl (by decide) rfl rfl (pa_cons (pe_callTy call_list_of (by rfl) T.b_list (by decide +kernel) (pa_cons (pv 1) pa_nil)) (pa_cons (pe_lst pa_nil) pa_nil)) (by rfl))
  (pss_cons (ps_while PassesOwn.never (pt_cmpR (op_neD hr.units) (pv 2) (pe_lst pa_nil) (nomark _))
    (pss_one (ps_expr (pe_bm PySem.F.plainAttrs_list PySem.F.slot_list_append PySem.F.type_list_append mt_append (pv 3) (pa_cons (pe_bm PySem.F.plainAttrs_list PySem.F.slot_list_pop PySem.F.type_list_pop mt_popAt (pv 2) (pa_cons (C8.pe_c c_Ldraw hr (by decide) (by rfl) (pa_cons (pv 0) (pa_cons (pe_callB call_len_seq (by rfl) T.b_len PySem.boot_len (pa_cons (pv 2) pa_nil)) pa_nil))) pa_nil)) pa_nil)))))
  (pss_one (ps_ret (pv 3))))), ?_⟩
    refine ⟨_, rfl, l, xs, rfl, Or.inl (sql R.s hl), fun L hL => ?_⟩
    have R1 : RS r m B (upd H L (.lst xs)) := R.new hL
    have L1 : (upd H L (.lst xs)) L = some (.lst xs) := upd_same
    have bL : B L = none := free_of R.s hL
    have rL := R.ne hL
    generalize upd H L (.lst xs) = H1 at R1 L1 ⊢
    refine ⟨Nat.zero_le _, fun U hU => ⟨_, _, rfl, ?_⟩⟩
    have R2 : RS r m B (upd H1 U (.lst [])) := R1.new hU
    have U2 : (upd H1 U (.lst [])) U = some (.lst []) := upd_same
    have bU : B U = none := free_of R1.s hU
    have rU := R1.ne hU
    have LU : L ≠ U := ne_of_none L1 hU
    have L2 : (upd H1 U (.lst [])) L = some (.lst xs) := by rw [upd_ne LU]; exact L1
    generalize upd H1 U (.lst []) = H2 at R2 L2 U2 ⊢
    refine ⟨fun n σ H' => ∃ lv ld tv td, σ = [some (.ref r), some (.ref l), some (.ref L), some (.ref U)] ∧ H' L = some (.lst lv) ∧ H' U = some (.lst tv) ∧ DpAll K B lv ld ∧ DpAll K B tv td ∧ List.Perm ds (td ++ ld) ∧ n = ld.length ∧ RS r (m + td.length) B H',
      ⟨_, xs, ds, [], [], rfl, L2, U2, hd, .nil, .refl _, rfl, R2⟩, ?_⟩
    rintro n σ H3 ⟨lv, ld, tv, td, rfl, L3, U3, dl, dt, pm, rfl, R3⟩
    have hpl := pm.length_eq
    rw [List.length_append] at hpl
    have lvl := dps_len dl
    have tvl := dps_len dt
    have gl : ∀ d ∈ ld, Good d := fun d h => hg d (pm.mem_iff.mpr (List.mem_append.mpr (.inr h)))
    refine ⟨_, rfl, Nat.zero_le _, fun p hp => ⟨.list ld, .list [], .lst (Or.inl (Or.inl ?_)) (dpsm (same_tr R3.s (snew hp)) _ _ dl), .lst (Or.inl (Or.inl upd_same)) .nil, shaped_list gl, shaped_list (by intro d h; cases h), _, rfl, ?_⟩⟩
    · rw [upd_ne (ne_of_none L3 hp)]
      exact L3
    rw [eqv_nil]
    have L4 : (upd H3 p (.lst [])) L = some (.lst lv) := by rw [upd_ne (ne_of_none L3 hp)]; exact L3
    have U4 : (upd H3 p (.lst [])) U = some (.lst tv) := by rw [upd_ne (ne_of_none U3 hp)]; exact U3
    have R4 : RS r (m + td.length) B (upd H3 p (.lst [])) := R3.new hp
    generalize upd H3 p (.lst []) = H4 at L4 U4 R4 ⊢
    cases hld : ld with
    | nil =>
      subst hld
      refine iteF ?_
      refine ⟨_, rfl, ?_⟩
      rw [List.append_nil] at pm
      refine q U H4 tv td bU rU pm dt ?_
      have e : ds.length = td.length := pm.length_eq
      rw [e]
      exact R4.keep U4 bU rU
    | cons d0 ld0 =>
      rw [← hld]
      have hpos : 0 < ld.length := by rw [hld]; exact Nat.succ_pos _
      have hne : ld.isEmpty = false := by rw [hld]; rfl
      rw [hne]
      refine iteT ⟨fun σ' H' => ∃ m', m' < ld.length ∧ ∃ lv ld tv td, σ' = [some (.ref r), some (.ref l), some (.ref L), some (.ref U)] ∧ H' L = some (.lst lv) ∧ H' U = some (.lst tv) ∧ DpAll K B lv ld ∧ DpAll K B tv td ∧ List.Perm ds (td ++ ld) ∧ m' = ld.length ∧ RS r (m + td.length) B H', fun _ _ h => h, ?_⟩
      refine ⟨_, rfl, Or.inl ⟨rfl, _, Or.inl (Or.inl U4)⟩, _, rfl, Or.inl ⟨rfl, _, Or.inl (Or.inl L4)⟩, _, rfl, _, rfl, L, lv, rfl, Or.inl (Or.inl (Or.inl L4)), r, _, _, rfl, R4.ok, by omega, by omega, by omega, fun d H5 d1 d2 D => ?_⟩
      have L5 : H5 L = some (.lst lv) := by rw [D.ne _ rL.symm]; exact L4
      have U5 : H5 U = some (.lst tv) := by rw [D.ne _ rU.symm]; exact U4
      have R5 := R4.dr D
      have d3 : d < (lv.length : Int) := d2
      obtain ⟨y, a1, a2, a3⟩ := atI_in d1 d3
      obtain ⟨j, b1, b2, b3, b4, b5⟩ := atI_get a1
      obtain ⟨e, e1, e2⟩ := dps_get dl b2
      have lj : (lv.eraseIdx j).length + 1 = lv.length := by
        rw [List.length_eraseIdx_of_lt b3]
        omega
      refine ⟨L, lv, d, j, y, rfl, rfl, L5, by omega, by omega, b1, b2, U, tv, y, rfl, rfl, ?_, small1000 (by omega), ?_⟩
      · rw [upd_ne LU.symm]
        exact U5
      · have dl' := dps_erase (k := j) dl
        have ll' := dps_len dl'
        refine ⟨(ld.eraseIdx j).length, by omega, lv.eraseIdx j, ld.eraseIdx j, tv ++ [y], td ++ [e], rfl, ?_, upd_same, dl', dps_snoc dt e2, ?_, rfl, ?_⟩
        · rw [upd_ne LU]
          exact upd_same
        · refine pm.trans ?_
          rw [List.append_assoc]
          exact .append_left _ (perm_erase e1)
        · have := (R5.put (o := .lst (lv.eraseIdx j)) bL rL).put (o := .lst (tv ++ [y])) bU rU
          rw [List.length_append]
          exact this
def spVector (K : PySem.W.Frag) : Sp := fun vs H Q _ => ∃ (r : Addr) (dims wide : Int) (m : Nat) (B : Hp), vs = [.ref r, .int dims, .int wide] ∧ RS r m B H ∧ 0 ≤ dims ∧ dims ≤ 3 ∧ 0 ≤ wide ∧ wide ≤ 1000 ∧ m ≤ 2 ^ 59 ∧
  ∀ p H' (v : List Int), B p = none → r ≠ p → (v.length : Int) = dims → (∀ x ∈ v, -1000 ≤ x ∧ x ≤ 1000) → RS r (m + 9) (upd B p (.tup (v.map V.int))) H' → Q (.ref p) H'
theorem ok_vector {f : Addr} {fd : FuncData} (F : Fun K "_law_vector" "_law_vector" s_Lvector f fd) (T : Txt mg) (c_Ldraw : C8.Cal P w K mg base 1 "_law_draw" spDraw []) : FnOk P w K mg base CX0 2 f fd ["_law_rng_here", "_law_dims", "_law_wide"] (spVector K) := by
  refine F.ok sc_Lvector (fun vs H Q E h => ?_) (fun cdv A outer sh H vs Q E hr h => ?_)
  · obtain ⟨r, dims, wide, m, B, rfl, _⟩ := h
    rfl
  · obtain ⟨r, dims, wide, m, B, rfl, R, hd0, hd3, hw0, hw1, hm, q⟩ := h
    refine ⟨_, (pss_cons (ps_set (i := 3) sc_Lvector.nd rfl (by first | exact Or.inl rfl | exact Or.inr rfl) (pe_lst pa_nil))
  (pss_cons (ps_for PassesOwn.never rfl (pi_range1 (by rfl) T.b_range (pa_cons (pv 1) pa_nil)) (pg_name (i := 4) sc_Lvector.nd rfl (by first | exact Or.inl rfl | exact Or.inr rfl))
    (pss_one (ps_expr (pe_bm PySem.F.plainAttrs_list PySem.F.slot_list_append PySem.F.type_list_append mt_append (pv 3) (pa_cons (pe_ix ix_list (pe_lst (pa_cons pe_int (pa_cons pe_int (pa_cons (C8.pe_c c_Ldraw hr (by decide) (by rfl) (pa_cons (pv 0) (pa_cons (pe_op op_add (pv 2) pe_int) pa_nil))) (pa_cons (pe_op op_sub pe_int (C8.pe_c c_Ldraw hr (by decide) (by rfl) (pa_cons (pv 0) (pa_cons (pe_op op_add (pv 2) pe_int) pa_nil)))) pa_nil))))) (C8.pe_c c_Ldraw hr (by decide) (by rfl) (pa_cons (pv 0) (pa_cons pe_int pa_nil))) (fun _ _ => rfl)) pa_nil)))))
  (pss_one (ps_ret (pe_callTy call_tuple_of (by rfl) T.b_tuple (by decide +kernel) (pa_cons (pv 3) pa_nil)))))), ?_⟩
    refine ⟨Nat.zero_le _, fun L hL => ?_⟩
    have R1 : RS r m B (upd H L (.lst [])) := R.new hL
    have L1 : (upd H L (.lst [])) L = some (.lst []) := upd_same
    have bL : B L = none := free_of R.s hL
    have rL := R.ne hL
    generalize upd H L (.lst []) = H1 at R1 L1 ⊢
    refine ⟨_, rfl, dims, rfl, by omega, by omega, for_range (fun i σ H' => ∃ (y4 : Option V) (xs : List Int), σ = [some (.ref r), some (.int dims), some (.int wide), some (.ref L), y4] ∧ xs.length = i ∧ (∀ x ∈ xs, -1000 ≤ x ∧ x ≤ 1000) ∧ H' L = some (.lst (xs.map V.int)) ∧ RS r (m + 3 * i) B H')
      ⟨none, [], rfl, rfl, (by intro x hx; cases hx), L1, R1⟩ ?_ ?_⟩
    · rintro i σ H2 hi ⟨y4, xs, rfl, hx, hb, L2, R2⟩
      have hi3 : i < 3 := by omega
      refine ⟨_, rfl, Or.inl ⟨rfl, _, Or.inl (Or.inl L2)⟩, _, rfl, _, rfl, _, _, rfl, rfl, r, _, _, rfl, R2.ok, by omega, by omega, by omega, fun d1 H3 a0 a1 D1 => ?_⟩
      have R3 := R2.dr D1
      have L3 : H3 L = some (.lst (xs.map V.int)) := by rw [D1.ne _ rL.symm]; exact L2
      refine ⟨_, rfl, _, rfl, _, _, rfl, rfl, r, _, _, rfl, R3.ok, by omega, by omega, by omega, fun d2 H4 b0 b1 D2 => ⟨_, _, rfl, rfl, ?_⟩⟩
      have R4 := R3.dr D2
      have L4 : H4 L = some (.lst (xs.map V.int)) := by rw [D2.ne _ rL.symm]; exact L3
      refine ⟨(by show 4 ≤ sizeLine; decide), fun p hp => ?_⟩
      have R5 : RS r (m + 3 * i + 1 + 1) B (upd H4 p (.lst [.int 0, .int 1, .int d1, .int (0 - d2)])) := R4.new hp
      have L5 : (upd H4 p (.lst [.int 0, .int 1, .int d1, .int (0 - d2)])) L = some (.lst (xs.map V.int)) := by rw [upd_ne (ne_of_none L4 hp)]; exact L4
      have p5 : (upd H4 p (.lst [.int 0, .int 1, .int d1, .int (0 - d2)])) p = some (.lst ([0, 1, d1, 0 - d2].map V.int)) := upd_same
      refine ⟨_, rfl, r, 4, m + 3 * i + 1 + 1, rfl, R5.ok, by omega, by omega, by decide, fun d3 H6 c0 c1 D3 => ?_⟩
      have R6 := R5.dr D3
      have L6 : H6 L = some (.lst (xs.map V.int)) := by rw [D3.ne _ rL.symm]; exact L5
      have p6 : H6 p = some (.lst ([0, 1, d1, 0 - d2].map V.int)) := by rw [D3.ne _ (R4.ne hp).symm]; exact p5
      obtain ⟨y, e1, e2, _⟩ := atI_in (xs := [0, 1, d1, 0 - d2].map V.int) c0 c1
      obtain ⟨n, hn, rfl⟩ := List.mem_map.mp e2
      have hnb : -1000 ≤ n ∧ n ≤ 1000 := by
        simp only [List.mem_cons, List.not_mem_nil, or_false] at hn
        omega
      refine ⟨p, _, d3, .int n, rfl, rfl, Or.inl (Or.inl p6), e1, L, _, .int n, rfl, rfl, L6, small1000 (by rw [List.length_map]; omega), ?_⟩
      refine ⟨_, xs ++ [n], rfl, by rw [List.length_append, hx]; rfl, ?_, ?_, (R6.put bL rL).mono (by omega)⟩
      · intro x h
        rcases List.mem_append.mp h with h | h
        · exact hb x h
        · rw [List.mem_singleton.mp h]
          exact hnb
      · rw [upd_same, List.map_append]
        rfl
    · rintro σ H2 ⟨y4, xs, rfl, hx, hb, L2, R2⟩
      refine ⟨_, rfl, L, _, rfl, Or.inl ⟨Or.inl (Or.inl L2), fun l hl => ?_⟩⟩
      have R3 : RS r (m + 9) B (upd H2 l (.tup (xs.map V.int))) := (R2.new hl).mono (by omega)
      exact q l _ xs (free_of R2.s hl) (R2.ne hl) (by omega) hb (R3.keep upd_same (free_of R2.s hl) (R2.ne hl))
end
end Fr

namespace Fr
open PySem PySem.Spec PyProof.Rows L2
/-- a statement, up to what holds behind it -/
def tCsq (t : TS) : TS := fun D σ H => ∃ N : L2.St → Hp → Prop, (∀ σ H, N σ H → D.nx σ H) ∧ t { D with nx := N } σ H
theorem ps_csq {X : Cx} {st : Stmt} {t : TS} (h : PS X st t) : PS X st (tCsq t) := ⟨fun pins s σ H D I ⟨N, hN, q⟩ => thn (h.run pins s σ H _ I q) fun f s2 q2 => by
  cases f with
  | next =>
    obtain ⟨σ3, H3, I3, n3⟩ := q2
    exact ⟨σ3, H3, I3, hN _ _ n3⟩
  | cont => exact q2
  | brk => exact q2
  | ret v => exact q2⟩
abbrev s_Lmade_rows : Stmt := topS 33
theorem sc_Lmade_rows : FnScope ["_law_rng_here", "_law_dims", "_law_many", "_law_most", "_law_wide", "_law_words", "_law_word", "_law_rows", "_law_turn", "_law_number", "_law_some", "_law_factor"] ["_law_rng_here", "_law_dims", "_law_many", "_law_most", "_law_wide"] (defScope s_Lmade_rows) := ⟨rfl, rfl, rfl, by decide +kernel, rfl, by decide +kernel, by decide +kernel⟩
-- slots: 0 _law_rng_here, 1 _law_dims, 2 _law_many, 3 _law_most, 4 _law_wide, 5 _law_words, 6 _law_word, 7 _law_rows, 8 _law_turn, 9 _law_number, 10 _law_some, 11 _law_factor
def W0 : List Str := ["a", "b", "c", "ab", "zz", "readhere"]
def row5 (x : Str) : Str := "row" ++ cutS x none (some 5)
theorem W0_names : ∀ x ∈ W0, isName x = true ∧ isName (row5 x) = true ∧ x.length ≤ 8 ∧ PyData.strOk x = true ∧ PyData.strOk (row5 x) = true ∧ (cutS x none (some 5)).length ≤ 5 := by decide +kernel
theorem W0_nodup : W0.Nodup := by decide +kernel
theorem W0_nodup5 : (W0.map row5).Nodup := by decide +kernel
/-- what words may be -/
structure Words (ws : List Str) (n : Nat) : Prop where
  len : ws.length = n
  nodup : ws.Nodup
  names : ∀ x ∈ ws, isName x = true
  oks : ∀ x ∈ ws, PyData.strOk x = true
  src : (∀ x ∈ ws, x ∈ W0) ∨ ∀ x ∈ ws, x ∈ W0.map row5
def unstr : PyData → Str
  | .str x => x
  | _ => Str.empty
theorem perm_words {es : List PyData} (h : List.Perm (W0.map PyData.str) es) : ∃ ws, es = ws.map PyData.str ∧ List.Perm W0 ws := by
  refine ⟨es.map unstr, ?_, ?_⟩
  · rw [List.map_map]
    refine (List.map_id es).symm.trans (List.map_congr_left fun e he => ?_)
    obtain ⟨x, _, rfl⟩ := List.mem_map.mp (h.mem_iff.mpr he)
    rfl
  · have := h.map unstr
    rw [List.map_map] at this
    have e : W0.map (unstr ∘ PyData.str) = W0 := by
      refine (List.map_congr_left fun e he => ?_).trans (List.map_id W0)
      rfl
    rw [e] at this
    exact this
theorem nthsf (l : List Str) (g : Str → Str) : (List.range l.length).map (fun i => V.str (g (nth l i))) = (l.map g).map V.str := by
  have := range_map_get ((l.map g).map V.str) (fun i => V.str (g (nth l i))) (fun i b hb => by
    rw [List.getElem?_map, List.getElem?_map] at hb
    obtain ⟨c, h1, h2⟩ := Option.map_eq_some_iff.mp hb
    obtain ⟨c', h3, h4⟩ := Option.map_eq_some_iff.mp h1
    rw [nth_of h3, h4]
    exact h2)
  rw [List.length_map, List.length_map] at this
  exact this
theorem RS.grow {r : Addr} {m : Nat} {B H H' : Hp} (h : RS r m B H) (e : Same H H') : RS r m B H' := ⟨same_tr h.s e, h.n, by
  obtain ⟨o, ho⟩ := h.ok.some
  exact h.ok.at (by rw [ho, e _ _ ho])⟩
section
variable {P : Program} {w : World} {K : PySem.W.Frag} {mg : Str → Option Value} {base : Heap}
theorem strs_dps {H : Hp} : ∀ (xs : List Str), DpAll K H (xs.map V.str) (xs.map PyData.str)
  | [] => .nil
  | x :: xs => .cons (.str x) (strs_dps xs)
theorem dps_strs {H : Hp} : ∀ {xs : List Str} {vs : List V}, DpAll K H vs (xs.map PyData.str) → vs = xs.map V.str
  | [], _, h => by cases h; rfl
  | n :: ns, _, h => by
    cases h with
    | cons h1 h2 => cases h1; rw [dps_strs h2]; rfl
structure Row1 where
  t : Addr
  w : Str
  c : Int
  l : Addr
  rs : List Rd1
def Row1.tb (y : Row1) : Tb := ⟨y.w, y.c, y.rs⟩
structure RowsAt (K : PySem.W.Frag) (B H : Hp) (r : Addr) (rows : List Row1) : Prop where
  at_ : ∀ (i : Nat) (y : Row1), rows[i]? = some y → SqT K B y.t [.str y.w, .int y.c, .ref y.l] ∧ B y.l = none ∧ r ≠ y.l ∧ ∃ xs, H y.l = some (.lst xs) ∧ DpAll K B xs (y.rs.map Rd1.d)
  inj : ∀ (i j : Nat) (y z : Row1), rows[i]? = some y → rows[j]? = some z → y.l = z.l → i = j
theorem RowsAt.step {B B' H H' : Hp} {r : Addr} {rows : List Row1} (h : RowsAt K B H r rows) (e : Same B B') (f : ∀ (i : Nat) (y : Row1), rows[i]? = some y → B' y.l = none ∧ H' y.l = H y.l) : RowsAt K B' H' r rows :=
  ⟨fun i y hy => by
    obtain ⟨a1, a2, a3, xs, a4, a5⟩ := h.at_ i y hy
    obtain ⟨b1, b2⟩ := f i y hy
    exact ⟨sqt e a1, b1, a3, xs, by rw [b2, a4], dpsm e _ _ a5⟩, h.inj⟩
theorem get_snoc {α : Type} {xs : List α} {x y : α} {i : Nat} (h : (xs ++ [x])[i]? = some y) : (xs[i]? = some y ∧ i < xs.length) ∨ (i = xs.length ∧ y = x) := by
  by_cases hi : i < xs.length
  · rw [List.getElem?_append_left hi] at h
    exact .inl ⟨h, hi⟩
  · rw [List.getElem?_append_right (by omega)] at h
    have : i - xs.length = 0 := by
      by_cases h0 : i - xs.length = 0
      · exact h0
      · rw [List.getElem?_eq_none (by simp; omega)] at h
        cases h
    rw [this] at h
    cases h
    exact .inr ⟨by omega, rfl⟩
theorem RowsAt.snoc {B H : Hp} {r : Addr} {rows : List Row1} {y : Row1} (h : RowsAt K B H r rows) (a : SqT K B y.t [.str y.w, .int y.c, .ref y.l]) (b : B y.l = none) (c : r ≠ y.l) (d : H y.l = some (.lst [])) (e : y.rs = []) (n : ∀ (i : Nat) (z : Row1), rows[i]? = some z → z.l ≠ y.l) : RowsAt K B H r (rows ++ [y]) :=
  ⟨fun i z hz => by
    rcases get_snoc hz with ⟨h1, _⟩ | ⟨_, rfl⟩
    · exact h.at_ i z h1
    · exact ⟨a, b, c, [], d, by rw [e]; exact .nil⟩, fun i j y' z hy hz hl => by
    rcases get_snoc hy with ⟨h1, k1⟩ | ⟨k1, rfl⟩ <;> rcases get_snoc hz with ⟨h2, k2⟩ | ⟨k2, rfl⟩
    · exact h.inj i j _ _ h1 h2 hl
    · exact absurd hl (n _ _ h1)
    · exact absurd hl.symm (n _ _ h2)
    · omega⟩
theorem get_set {α : Type} {xs : List α} {x y : α} {i j : Nat} (h : (xs.set j x)[i]? = some y) : (i = j ∧ y = x) ∨ (i ≠ j ∧ xs[i]? = some y) := by
  by_cases hi : j = i
  · subst hi
    rw [List.getElem?_set_self'] at h
    cases hx : xs[j]? with
    | none =>
      rw [hx] at h
      cases h
    | some z =>
      rw [hx] at h
      cases h
      exact .inl ⟨rfl, rfl⟩
  · rw [List.getElem?_set_ne hi] at h
    exact .inr ⟨fun e => hi e.symm, h⟩
theorem map_set_same {α β : Type} {xs : List α} {x y : α} {j : Nat} {f : α → β} (h : xs[j]? = some y) (e : f x = f y) : (xs.set j x).map f = xs.map f := by
  rw [List.map_set, e]
  refine List.ext_getElem? fun i => ?_
  by_cases hi : j = i
  · subst hi
    rw [List.getElem?_set_self', List.getElem?_map, h]
    rfl
  · rw [List.getElem?_set_ne hi]
theorem sum_set {α : Type} {f : α → Nat} : ∀ {xs : List α} {x y : α} {j : Nat}, xs[j]? = some y → f x = f y + 1 → ((xs.set j x).map f).sum = (xs.map f).sum + 1
  | [], _, _, _, h, _ => by cases h
  | z :: xs, x, y, 0, h, e => by
    cases h
    simp [e]
    omega
  | z :: xs, x, y, j + 1, h, e => by
    have := sum_set (xs := xs) (x := x) (y := y) (j := j) (by simpa using h) e
    rw [List.set_cons_succ, List.map_cons, List.map_cons, List.sum_cons, List.sum_cons, this]
    omega
/-- a read more at the j-th row -/
theorem RowsAt.put {B H : Hp} {r : Addr} {rows : List Row1} {y : Row1} {j : Nat} {rd : Rd1} {v : V} {xs : List V} (h : RowsAt K B H r rows) (e : rows[j]? = some y) (hx : H y.l = some (.lst xs)) (hv : Dp K B v rd.d) :
    RowsAt K B (upd H y.l (.lst (xs ++ [v]))) r (rows.set j { y with rs := y.rs ++ [rd] }) :=
  ⟨fun i z hz => by
    rcases get_set hz with ⟨rfl, rfl⟩ | ⟨ne, hz⟩
    · obtain ⟨a1, a2, a3, xs', a4, a5⟩ := h.at_ _ y e
      rw [hx] at a4
      cases a4
      refine ⟨a1, a2, a3, xs ++ [v], upd_same, ?_⟩
      show DpAll K B (xs ++ [v]) ((y.rs ++ [rd]).map Rd1.d)
      rw [List.map_append]
      exact dps_snoc a5 hv
    · obtain ⟨a1, a2, a3, xs', a4, a5⟩ := h.at_ _ z hz
      refine ⟨a1, a2, a3, xs', ?_, a5⟩
      rw [upd_ne fun hl => ne (h.inj i j z y hz e hl)]
      exact a4, fun i i' z z' hz hz' hl => by
    rcases get_set hz with ⟨rfl, rfl⟩ | ⟨ne, hz1⟩ <;> rcases get_set hz' with ⟨rfl, rfl⟩ | ⟨ne', hz2⟩
    · rfl
    · exact h.inj _ _ y z' e hz2 hl
    · exact h.inj _ _ z y hz1 e hl
    · exact h.inj _ _ z z' hz1 hz2 hl⟩
theorem RowsAt.dr {B H H' : Hp} {r : Addr} {m : Nat} {rows : List Row1} (h : RowsAt K B H r rows) (d : Dr r m H H') : RowsAt K B H' r rows := h.step same_refl fun j y hy => ⟨(h.at_ j y hy).2.1, d.ne _ (h.at_ j y hy).2.2.1.symm⟩
theorem RowsAt.new {B H : Hp} {r p : Addr} {o : HO} {rows : List Row1} (h : RowsAt K B H r rows) (e : H p = none) : RowsAt K B (upd H p o) r rows := h.step same_refl fun j y hy => by
  obtain ⟨a1, a2, a3, xs, a4, a5⟩ := h.at_ j y hy
  exact ⟨a2, upd_ne (ne_of_none a4 e)⟩
theorem dps_of {α : Type} {H : Hp} {f : α → V} {g : α → PyData} : ∀ {xs : List α}, (∀ x ∈ xs, Dp K H (f x) (g x)) → DpAll K H (xs.map f) (xs.map g)
  | [], _ => .nil
  | x :: xs, h => .cons (h x List.mem_cons_self) (dps_of fun y hy => h y (List.mem_cons_of_mem _ hy))
theorem yes_if {σ : L2.St} {H : Hp} {A B : Hp → Prop} (h : A H) : tYes σ H (fun b H3 => if b = true then A H3 else B H3) := by
  show (if true = true then A H else B H)
  rw [if_pos rfl]
  exact h
theorem mem_le_sum {α : Type} {f : α → Nat} : ∀ {xs : List α} {x : α}, x ∈ xs → f x ≤ (xs.map f).sum
  | [], _, h => by cases h
  | y :: xs, x, h => by
    rw [List.map_cons, List.sum_cons]
    rcases List.mem_cons.mp h with rfl | h
    · omega
    · have := mem_le_sum (f := f) h
      omega
theorem sum_zero {α : Type} {f : α → Nat} : ∀ {xs : List α}, (∀ x ∈ xs, f x = 0) → (xs.map f).sum = 0
  | [], _ => rfl
  | x :: xs, h => by
    rw [List.map_cons, List.sum_cons, h x List.mem_cons_self, sum_zero fun y hy => h y (List.mem_cons_of_mem _ hy)]
theorem RS.vec {r q : Addr} {m m' : Nat} {B H H' : Hp} {o : HO} (h : RS r m B H) (e : RS r m' (upd (cutr H r) q o) H') (n : cutr H r q = none) (k : r ≠ q) : RS r m' (upd B q o) H' ∧ B q = none ∧ H q = none ∧ ∀ b, b ≠ r → H b ≠ none → H' b = H b := by
  have hq : H q = none := by
    rw [cutr_ne k.symm] at n
    exact n
  have keep : ∀ b, b ≠ r → H b ≠ none → H' b = H b := fun b nb hb => by
    cases ho : H b with
    | none => exact absurd ho hb
    | some o' =>
      refine e.s b o' ?_
      rw [upd_ne (ne_of_none ho hq), cutr_ne nb]
      exact ho
  refine ⟨⟨fun b x hx => ?_, by rw [upd_ne k]; exact h.n, e.ok⟩, free_of h.s hq, hq, keep⟩
  by_cases hb : b = q
  · rw [hb, upd_same] at hx
    rw [hb]
    exact e.s q x (by rw [upd_same]; exact hx)
  · rw [upd_ne hb] at hx
    have hH := h.s b x hx
    rw [keep b (ne_of_none hx h.n) (by rw [hH]; exact fun z => by cases z)]
    exact hH
/-- a list of data that may still be changed -/
def LD (K : PySem.W.Frag) (H : Hp) (l : Addr) (ds : List PyData) : Prop := ∃ xs, H l = some (.lst xs) ∧ DpAll K H xs ds
theorem LD.dp {H : Hp} {l : Addr} {ds : List PyData} (h : LD K H l ds) : Dp K H (.ref l) (.list ds) := by
  obtain ⟨xs, h1, h2⟩ := h
  exact .lst (Or.inl (Or.inl h1)) h2
theorem LD.grow {H H' : Hp} {l : Addr} {ds : List PyData} (h : LD K H l ds) (e : Same H H') : LD K H' l ds := by
  obtain ⟨xs, h1, h2⟩ := h
  exact ⟨xs, e _ _ h1, dpsm e _ _ h2⟩
/-- numbers within bounds -/
structure SmT (t : Tb) : Prop where
  c : -99 ≤ t.c ∧ t.c ≤ 99
  f : ∀ rd ∈ t.rs, -10 ≤ rd.f ∧ rd.f ≤ 10
  v : ∀ rd ∈ t.rs, ∀ x ∈ rd.v, -1000 ≤ x ∧ x ≤ 1000
def spRows (K : PySem.W.Frag) : Sp := fun vs H Q _ => ∃ (r : Addr) (dims many most wide : Int) (m : Nat) (B : Hp), vs = [.ref r, .int dims, .int many, .int most, .int wide] ∧ RS r m B H ∧ 1 ≤ dims ∧ dims ≤ 3 ∧ 1 ≤ many ∧ many ≤ 6 ∧ 0 ≤ most ∧ most ≤ 12 ∧ 0 ≤ wide ∧ wide ≤ 1000 ∧ m ≤ 2 ^ 58 ∧
  ∀ p B' H' (ts : List Tb), Same B B' → RS r (m + 1000) B' H' → LD K B' p (ts.map Tb.d) → (ts.length : Int) = many → OkT dims ts → (∀ t ∈ ts, PyData.strOk t.n = true) → (∀ t ∈ ts, SmT t) → ((∀ t ∈ ts, t.n ∈ W0) ∨ ∀ t ∈ ts, t.n ∈ W0.map row5) → (((ts.map fun t => t.rs.length).sum : Nat) : Int) ≤ most → Q (.ref p) H'
theorem ok_made_rows {f : Addr} {fd : FuncData} (F : Fun K "_law_made_rows" "_law_made_rows" s_Lmade_rows f fd) (T : Txt mg) (c_Ldraw : C8.Cal P w K mg base 1 "_law_draw" spDraw []) (c_Lmixed : C8.Cal P w K mg base 2 "_law_mixed" (spMixed K) []) (c_Lvector : C8.Cal P w K mg base 2 "_law_vector" (spVector K) []) : FnOk P w K mg base CX0 3 f fd ["_law_rng_here", "_law_dims", "_law_many", "_law_most", "_law_wide"] (spRows K) := by
  refine F.ok sc_Lmade_rows (fun vs H Q E h => ?_) (fun cdv A outer sh H vs Q E hr h => ?_)
  · obtain ⟨r, dims, many, most, wide, m, B, rfl, _⟩ := h
    rfl
  · obtain ⟨r, dims, many, most, wide, m, B, rfl, R, hd1, hd3, hn1, hn6, hm0, hm12, hw0, hw1, hm, q⟩ := h
    refine ⟨_, (pss_cons (ps_set (i := 5) sc_Lmade_rows.nd rfl (by first | exact Or.inl rfl | exact Or.inr rfl) (pe_slice sl_list (C8.pe_c c_Lmixed hr (by decide) (by rfl) (pa_cons (pv 0) (pa_cons (pe_lst (pa_cons pe_str (pa_cons pe_str (pa_cons pe_str (pa_cons pe_str (pa_cons pe_str (pa_cons pe_str pa_nil))))))) pa_nil))) po_none (po_some (pv 2))))
  (pss_cons (ps_csq (ps_if (pt_cmpR op_eq (C8.pe_c c_Ldraw hr (by decide) (by rfl) (pa_cons (pv 0) (pa_cons pe_int pa_nil))) pe_int (nomark _))
    (pss_one (ps_setLc (i := 5) (own := [("_law_word", 6)]) (g := gName 6) (tt := tYes) (by rfl) sc_Lmade_rows.nd rfl rfl (sw_true rfl rfl rfl (by decide +kernel)) (pi_list (pv 5)) (blkOk_by (N := ["_law_rng_here", "_law_dims", "_law_many", "_law_most", "_law_wide", "_law_words", "_law_word", "_law_rows", "_law_turn", "_law_number", "_law_some", "_law_factor"]) (sc := defScope s_Lmade_rows) (by decide +kernel)) (fun _ _ _ _ _ => (pg_name (i := 6) sc_Lmade_rows.nd rfl (by first | exact Or.inl rfl | exact Or.inr rfl))) (fun _ _ _ _ _ => pts_nil) (fun _ _ _ _ _ => (pe_op op_add_str pe_str (pe_slice sl_str (pv 6) po_none (po_some pe_int))))))
    pss_nil))
  (pss_cons (ps_setLc (i := 7) (own := [("_law_word", 6)]) (g := gName 6) (tt := tYes) (by rfl) sc_Lmade_rows.nd rfl rfl (sw_true rfl rfl rfl (by decide +kernel)) (pi_list (pv 5)) (blkOk_by (N := ["_law_rng_here", "_law_dims", "_law_many", "_law_most", "_law_wide", "_law_words", "_law_word", "_law_rows", "_law_turn", "_law_number", "_law_some", "_law_factor"]) (sc := defScope s_Lmade_rows) (by decide +kernel)) (fun _ _ _ _ _ => (pg_name (i := 6) sc_Lmade_rows.nd rfl (by first | exact Or.inl rfl | exact Or.inr rfl))) (fun _ _ _ _ _ => pts_nil) (fun _ _ _ _ _ => (pe_tup (pa_cons (pv 6) (pa_cons (pe_op op_sub (C8.pe_c c_Ldraw hr (by decide) (by rfl) (pa_cons (pv 0) (pa_cons pe_int pa_nil))) pe_int) (pa_cons (pe_lst pa_nil) pa_nil))))))
  (pss_cons (ps_for PassesOwn.never rfl (pi_range1 (by rfl) T.b_range (pa_cons (C8.pe_c c_Ldraw hr (by decide) (by rfl) (pa_cons (pv 0) (pa_cons (pe_op op_add (pv 3) pe_int) pa_nil))) pa_nil)) (pg_name (i := 8) sc_Lmade_rows.nd rfl (by first | exact Or.inl rfl | exact Or.inr rfl))
    (pss_cons (ps_asg (pe_ix ix_list (pv 7) (C8.pe_c c_Ldraw hr (by decide) (by rfl) (pa_cons (pv 0) (pa_cons (pv 2) pa_nil))) (fun _ _ => rfl)) (pg_tup rfl (pgs_cons (pg_name (i := 6) sc_Lmade_rows.nd rfl (by first | exact Or.inl rfl | exact Or.inr rfl)) (pgs_cons (pg_name (i := 9) sc_Lmade_rows.nd rfl (by first | exact Or.inl rfl | exact Or.inr rfl)) (pgs_cons (pg_name (i := 10) sc_Lmade_rows.nd rfl (by first | exact Or.inl rfl | exact Or.inr rfl)) pgs_nil)))))
    (pss_cons (ps_set (i := 11) sc_Lmade_rows.nd rfl (by first | exact Or.inl rfl | exact Or.inr rfl) (pe_ix ix_list (pe_lst (pa_cons pe_int (pa_cons (pe_un un_neg pe_int) (pa_cons (pe_op op_add pe_int (C8.pe_c c_Ldraw hr (by decide) (by rfl) (pa_cons (pv 0) (pa_cons pe_int pa_nil)))) (pa_cons (pe_op op_sub (pe_op op_sub pe_int pe_int) (C8.pe_c c_Ldraw hr (by decide) (by rfl) (pa_cons (pv 0) (pa_cons pe_int pa_nil)))) pa_nil))))) (C8.pe_c c_Ldraw hr (by decide) (by rfl) (pa_cons (pv 0) (pa_cons pe_int pa_nil))) (fun _ _ => rfl)))
    (pss_one (ps_expr (pe_bm PySem.F.plainAttrs_list PySem.F.slot_list_append PySem.F.type_list_append mt_append (pv 10) (pa_cons (pe_tup (pa_cons (pe_ix ix_list (pv 5) (C8.pe_c c_Ldraw hr (by decide) (by rfl) (pa_cons (pv 0) (pa_cons (pv 2) pa_nil))) (fun _ _ => rfl)) (pa_cons (C8.pe_c c_Lvector hr (by decide) (by rfl) (pa_cons (pv 0) (pa_cons (pv 1) (pa_cons (pv 4) pa_nil)))) (pa_cons (pv 11) pa_nil)))) pa_nil)))))))
  (pss_one (ps_ret (pv 7))))))), ?_⟩
    -- the words
    refine ⟨_, rfl, (by show 6 ≤ sizeLine; decide), fun p0 hp0 => ?_⟩
    have bp0 := free_of R.s hp0
    have rp0 := R.ne hp0
    have R0 : RS r m (upd B p0 (.lst (W0.map V.str))) (upd H p0 (.lst (W0.map V.str))) := (R.new hp0).keep upd_same bp0 rp0
    refine ⟨r, p0, m, _, W0.map V.str, W0.map PyData.str, rfl, R0, Or.inl (Or.inl upd_same), strs_dps _, ?_, by decide, by omega, fun p1 H1 ys es b1 r1 pm dys R1 => ?_⟩
    · intro d hd
      obtain ⟨x, _, rfl⟩ := List.mem_map.mp hd
      exact ⟨by simp only [PyData.canLay0]; exact (W0_names x (by assumption)).2.2.2.1, by simp [PyData.depth]⟩
    have s01 : Same B (upd (upd B p0 (.lst (W0.map V.str))) p1 (.lst ys)) := same_tr (snew bp0) (snew b1)
    have b1at : (upd (upd B p0 (.lst (W0.map V.str))) p1 (.lst ys)) p1 = some (.lst ys) := upd_same
    obtain ⟨ws0, rfl, pw⟩ := perm_words pm
    obtain rfl := dps_strs dys
    generalize upd (upd B p0 (.lst (W0.map V.str))) p1 (.lst (ws0.map V.str)) = B1 at R1 s01 b1at
    have hwl : ws0.length = 6 := pw.length_eq.symm
    refine ⟨_, rfl, many, rfl, p1, _, rfl, Or.inl (Or.inl (R1.s _ _ b1at)), fun p2 hp2 => ?_⟩
    have ecut : cutV (ws0.map V.str) none (some many) = (ws0.take many.toNat).map V.str := by
      have h := cut_to (ws0.map V.str) many.toNat (by rw [List.length_map]; omega)
      rw [Int.toNat_of_nonneg (by omega)] at h
      rw [h, List.map_take]
    rw [ecut]
    have R2 := (R1.new (o := .lst ((ws0.take many.toNat).map V.str)) hp2).keep upd_same (free_of R1.s hp2) (R1.ne hp2)
    have s02 : Same B (upd B1 p2 (.lst ((ws0.take many.toNat).map V.str))) := same_tr s01 (snew (free_of R1.s hp2))
    have b2at : (upd B1 p2 (.lst ((ws0.take many.toNat).map V.str))) p2 = some (.lst ((ws0.take many.toNat).map V.str)) := upd_same
    generalize upd B1 p2 (.lst ((ws0.take many.toNat).map V.str)) = B2 at R2 s02 b2at
    generalize upd H1 p2 (.lst ((ws0.take many.toNat).map V.str)) = H2 at R2
    -- the if
    refine ⟨fun σ H' => ∃ (wl : Addr) (B' : Hp) (ws : List Str), σ = [some (.ref r), some (.int dims), some (.int many), some (.int most), some (.int wide), some (.ref wl), none, none, none, none, none, none] ∧ RS r (m + 7) B' H' ∧ Same B B' ∧ B' wl = some (.lst (ws.map V.str)) ∧ Words ws many.toNat, ?_, ?_⟩
    · rintro σ H3 ⟨wl, B', ws, rfl, R3, s3, hws, W⟩
      have wlen : ws.length ≤ 6 := by
        have := W.len
        omega
      refine ⟨_, rfl, wl, rfl, ⟨_, Or.inl (Or.inl (R3.s _ _ hws))⟩, fun D hD => lc_it (walk_list (K := K) (a := wl) (xs := ws.map V.str)) (fun i H' => ∃ (B2 : Hp) (rows : List Row1), Same B' B2 ∧ RS r (m + 7 + i) B2 H' ∧ RowsAt K B2 H' r rows ∧ rows.map (·.w) = ws.take i ∧ (∀ y ∈ rows, y.rs = [] ∧ -99 ≤ y.c ∧ y.c ≤ 99) ∧ H' D = some (.lst (rows.map fun y => V.ref y.t)) ∧ B2 D = none ∧ (∀ y ∈ rows, y.l ≠ D))
        ⟨B', [], same_refl, R3.new hD, ⟨fun i y h => (by cases h), fun i j y z h => (by cases h)⟩, rfl, (by intro y h; cases h), upd_same, free_of R3.s hD, (by intro y h; cases h)⟩ (fun i H' _ ⟨B2, rows, b1, b2, _⟩ => Or.inl (Or.inl (b2.s _ _ (b1 _ _ hws)))) ?_ ?_⟩
      · rintro i x _ H4 hi ⟨B2, rows, b1, b2, b3, b4, b5, b6, b7, b8⟩ ⟨rfl, hx⟩
        rw [List.length_map] at hi
        rw [List.getElem?_map] at hx
        obtain ⟨wd, hwd, rfl⟩ := Option.map_eq_some_iff.mp hx
        have hrl : rows.length = i := by
          have := congrArg List.length b4
          rw [List.length_map, List.length_take] at this
          omega
        have rD := R3.ne hD
        refine ⟨rfl, yes_if ?_⟩
        refine ⟨_, rfl, _, rfl, r, _, _, rfl, b2.ok, by omega, by decide, by decide, fun d H6 d0 d1 D6 => ⟨_, _, rfl, rfl, Nat.zero_le _, fun l hl => ⟨(by show 3 ≤ sizeLine; decide), fun t ht => ?_⟩⟩⟩
        have R6 := b2.dr D6
        have R7 := R6.new (o := .lst []) hl
        have D7 : (upd H6 l (.lst [])) D = some (.lst (rows.map fun y => V.ref y.t)) := by
          have h6 : H6 D = some (.lst (rows.map fun y => V.ref y.t)) := by rw [D6.ne _ rD.symm]; exact b6
          rw [upd_ne (ne_of_none h6 hl)]
          exact h6
        have lD : l ≠ D := fun z => by
          rw [z, D6.ne _ rD.symm, b6] at hl
          cases hl
        have tD : t ≠ D := fun z => by
          rw [z, D7] at ht
          cases ht
        have tl : t ≠ l := fun z => by
          rw [z, upd_same] at ht
          cases ht
        have bt : B2 t = none := free_of R7.s ht
        have bl : B2 l = none := free_of R6.s hl
        have R8 := (R7.new (o := .tup [.str wd, .int (d - 99), .ref l]) ht).keep upd_same bt (R7.ne ht)
        have b8D : (upd B2 t (.tup [.str wd, .int (d - 99), .ref l])) D = none := by rw [upd_ne tD.symm]; exact b7
        refine ⟨_, by rw [upd_ne tD.symm]; exact D7, small1000 (by rw [List.length_map]; omega), ?_⟩
        have hold : ∀ (j : Nat) (y : Row1), rows[j]? = some y → y.l ≠ D ∧ y.l ≠ l ∧ y.l ≠ t ∧ H6 y.l = H4 y.l := fun j y hy => by
          obtain ⟨a1, a2, a3, xs, a4, a5⟩ := b3.at_ j y hy
          have e6 : H6 y.l = H4 y.l := D6.ne _ a3.symm
          have h6 : H6 y.l = some (.lst xs) := by rw [e6]; exact a4
          have n1 := ne_of_none h6 hl
          refine ⟨b8 y (List.mem_of_getElem? hy), n1, ?_, e6⟩
          exact ne_of_none (by rw [upd_ne n1]; exact h6) ht
        refine ⟨upd B2 t (.tup [.str wd, .int (d - 99), .ref l]), rows ++ [⟨t, wd, d - 99, l, []⟩], same_tr b1 (snew bt), (R8.put b8D rD), ?_, ?_, ?_, ?_, b8D, ?_⟩
        · refine RowsAt.snoc (b3.step (snew bt) fun j y hy => ?_) (Or.inl (Or.inl upd_same)) ?_ (R6.ne hl) ?_ rfl fun j z hz => (hold j z hz).2.1
          · obtain ⟨n1, n2, n3, n4⟩ := hold j y hy
            refine ⟨?_, ?_⟩
            · rw [upd_ne n3]
              exact (b3.at_ j y hy).2.1
            · rw [upd_ne n1, upd_ne n3, upd_ne n2]
              exact n4
          · show (upd B2 t _) l = none
            rw [upd_ne tl.symm]
            exact bl
          · show (upd (upd (upd H6 l (.lst [])) t _) D _) l = _
            rw [upd_ne lD, upd_ne tl.symm, upd_same]
        · rw [List.map_append, b4, List.take_add_one, hwd]
          rfl
        · intro y hy
          rcases List.mem_append.mp hy with h | h
          · exact b5 y h
          · rw [List.mem_singleton.mp h]
            exact ⟨rfl, (by show -99 ≤ d - 99; omega), (by show d - 99 ≤ 99; omega)⟩
        · rw [upd_same, List.map_append]
          rfl
        · intro y hy
          rcases List.mem_append.mp hy with h | h
          · exact b8 y h
          · rw [List.mem_singleton.mp h]
            exact lD
      · rintro H4 ⟨B2, rows, b1, b2, b3, b4, b5, b6, b7, b8⟩
        rw [List.length_map, List.take_length] at b4
        rw [List.length_map] at b2
        have rD := R3.ne hD
        have R4 := b2.keep b6 b7 rD
        have M4 := b3.step (B' := upd B2 D (.lst (rows.map fun y => V.ref y.t))) (H' := H4) (snew b7) fun j y hy => ⟨by rw [upd_ne (b8 y (List.mem_of_getElem? hy))]; exact (b3.at_ j y hy).2.1, rfl⟩
        have B4D : (upd B2 D (.lst (rows.map fun y => V.ref y.t))) D = some (.lst (rows.map fun y => V.ref y.t)) := upd_same
        have s4 : Same B' (upd B2 D (.lst (rows.map fun y => V.ref y.t))) := same_tr b1 (snew b7)
        generalize upd B2 D (.lst (rows.map fun y => V.ref y.t)) = B4 at R4 M4 B4D s4
        have hrl : rows.length = ws.length := by
          have := congrArg List.length b4
          rw [List.length_map] at this
          exact this
        have s0 : (rows.map fun y => y.rs.length).sum = 0 := sum_zero fun y hy => by rw [(b5 y hy).1]; rfl
        have wmany : (ws.length : Int) = many := by
          have := W.len
          omega
        refine ⟨_, rfl, _, rfl, _, _, rfl, rfl, r, _, _, rfl, R4.ok, by omega, by omega, by omega, fun d H5 d0 d1 D5 => ⟨d, rfl, by omega, by omega, ?_⟩⟩
        refine for_range (fun i σ H' => ∃ (B5 : Hp) (rows' : List Row1) (y6 y8 y9 y10 y11 : Option V), σ = [some (.ref r), some (.int dims), some (.int many), some (.int most), some (.int wide), some (.ref wl), y6, some (.ref D), y8, y9, y10, y11] ∧ RS r (m + 20 + 20 * i) B5 H' ∧ RowsAt K B5 H' r rows' ∧ Same B4 B5 ∧ rows'.map (·.w) = ws ∧ rows'.map (fun y => V.ref y.t) = rows.map (fun y => V.ref y.t) ∧ (rows'.map fun y => y.rs.length).sum = i ∧ ∀ y ∈ rows', (-99 ≤ y.c ∧ y.c ≤ 99) ∧ ∀ rd ∈ y.rs, isRead dims rd = true ∧ rd.t ∈ ws ∧ (-10 ≤ rd.f ∧ rd.f ≤ 10) ∧ ∀ x ∈ rd.v, -1000 ≤ x ∧ x ≤ 1000)
          ⟨B4, rows, none, none, none, none, none, rfl, (R4.dr D5).mono (by omega), M4.step same_refl fun j y hy => ⟨(M4.at_ j y hy).2.1, D5.ne _ (M4.at_ j y hy).2.2.1.symm⟩, same_refl, b4, rfl, s0, fun y hy => ⟨(b5 y hy).2, fun rd hrd => by
            rw [(b5 y hy).1] at hrd
            cases hrd⟩⟩ ?_ ?_
        · rintro i σ H6 hi ⟨B5, rows', y6, y8, y9, y10, y11, rfl, R5, M5, s5, e1, e2, e3, e4⟩
          have hi12 : i < 12 := by omega
          have hrl' : rows'.length = ws.length := by
            have := congrArg List.length e1
            rw [List.length_map] at this
            exact this
          -- the row
          refine ⟨_, rfl, _, rfl, _, rfl, r, many, _, rfl, R5.ok, by omega, by omega, by omega, fun k1 H7 k10 k11 D7 => ?_⟩
          have R7 := R5.dr D7
          have M7 := M5.step (H' := H7) same_refl fun j y hy => ⟨(M5.at_ j y hy).2.1, D7.ne _ (M5.at_ j y hy).2.2.1.symm⟩
          obtain ⟨v, a1, _, a3⟩ := atI_in (xs := rows'.map fun y => V.ref y.t) k10 (by rw [List.length_map]; omega)
          rw [List.getElem?_map] at a3
          obtain ⟨y, hy, rfl⟩ := Option.map_eq_some_iff.mp a3
          obtain ⟨c1, c2, c3, xs, c4, c5⟩ := M7.at_ _ y hy
          refine ⟨D, _, k1, _, rfl, rfl, Or.inl (Or.inl (R7.s _ _ (s5 _ _ B4D))), by rw [← e2]; exact a1, y.t, _, rfl, sqt R7.s c1, rfl, _, _, rfl, _, _, rfl, _, _, rfl, rfl, ?_⟩
          -- the factor
          refine ⟨1, rfl, _, rfl, r, 9, _, rfl, R7.ok, by omega, by decide, by decide, fun k2 H8 k20 k21 D8 => ⟨_, _, rfl, rfl, _, _, rfl, rfl, ?_⟩⟩
          have R8 := R7.dr D8
          have M8 := M7.dr D8
          refine ⟨_, rfl, r, 9, _, rfl, R8.ok, by omega, by decide, by decide, fun k3 H9 k30 k31 D9 => ⟨_, _, rfl, rfl, (by show 4 ≤ sizeLine; decide), fun p hp => ?_⟩⟩
          have R9 := R8.dr D9
          have M9 := M8.dr D9
          have p10 : (upd H9 p (.lst [.int 1, .int (-1), .int (1 + k2), .int (0 - 1 - k3)])) p = some (.lst ([1, -1, 1 + k2, 0 - 1 - k3].map V.int)) := upd_same
          have R10 := R9.new (o := .lst [.int 1, .int (-1), .int (1 + k2), .int (0 - 1 - k3)]) hp
          have M10 := M9.new (o := .lst [.int 1, .int (-1), .int (1 + k2), .int (0 - 1 - k3)]) hp
          have rp := R9.ne hp
          refine ⟨_, rfl, r, 4, _, rfl, R10.ok, by omega, by decide, by decide, fun k4 H11 k40 k41 D11 => ?_⟩
          have R11 := R10.dr D11
          have M11 := M10.dr D11
          have p11 : H11 p = some (.lst ([1, -1, 1 + k2, 0 - 1 - k3].map V.int)) := by rw [D11.ne _ rp.symm]; exact p10
          obtain ⟨fv, f1, f2, _⟩ := atI_in (xs := [1, -1, 1 + k2, 0 - 1 - k3].map V.int) k40 k41
          obtain ⟨fc, f3, rfl⟩ := List.mem_map.mp f2
          have hfc : fc ≠ 0 ∧ -10 ≤ fc ∧ fc ≤ 10 := by
            simp only [List.mem_cons, List.not_mem_nil, or_false] at f3
            omega
          refine ⟨p, _, k4, _, rfl, rfl, Or.inl (Or.inl p11), f1, ?_⟩
          -- the append
          obtain ⟨g1, g2, g3, xs2, g4, g5⟩ := M11.at_ _ y hy
          refine ⟨_, rfl, Or.inl ⟨rfl, _, Or.inl (Or.inl g4)⟩, _, rfl, _, rfl, _, rfl, r, many, _, rfl, R11.ok, by omega, by omega, by omega, fun k5 H12 k50 k51 D12 => ?_⟩
          have R12 := R11.dr D12
          have M12 := M11.dr D12
          obtain ⟨tv, t1, _, t3⟩ := atI_in (xs := ws.map V.str) k50 (by rw [List.length_map]; omega)
          rw [List.getElem?_map] at t3
          obtain ⟨tw, htw, rfl⟩ := Option.map_eq_some_iff.mp t3
          refine ⟨wl, _, k5, _, rfl, rfl, Or.inl (Or.inl (R12.s _ _ (s5 _ _ (s4 _ _ hws)))), t1, ?_⟩
          refine ⟨_, rfl, _, rfl, _, rfl, r, dims, wide, _, cutr H12 r, rfl, RS.cut R12.ok, by omega, by omega, by omega, by omega, by omega, fun q1 H13 vec hq1 rq1 hvl hvb R13 => ?_⟩
          obtain ⟨R13', bq, hq12, keep⟩ := R12.vec R13 hq1 rq1
          have M13 := M12.step (B' := upd B5 q1 (.tup (vec.map V.int))) (H' := H13) (snew bq) fun j z hz => by
            obtain ⟨a1, a2, a3, xs, a4, a5⟩ := M12.at_ j z hz
            refine ⟨?_, keep _ a3.symm (by rw [a4]; exact fun z => by cases z)⟩
            rw [upd_ne (ne_of_none a4 hq12)]
            exact a2
          refine ⟨_, rfl, (by show 3 ≤ sizeLine; decide), fun u hu => ?_⟩
          have bu := free_of R13'.s hu
          have R14 := (R13'.new (o := .tup [.str tw, .ref q1, .int fc]) hu).keep upd_same bu (R13'.ne hu)
          have M14 := M13.step (B' := upd (upd B5 q1 (.tup (vec.map V.int))) u (.tup [.str tw, .ref q1, .int fc])) (H' := upd H13 u (.tup [.str tw, .ref q1, .int fc])) (snew bu) fun j z hz => by
            obtain ⟨a1, a2, a3, xs, a4, a5⟩ := M13.at_ j z hz
            have n := ne_of_none a4 hu
            exact ⟨by rw [upd_ne n]; exact a2, upd_ne n⟩
          obtain ⟨m1, m2, m3, xs4, m4, m5⟩ := M14.at_ _ y hy
          have lsm : xs4.length ≤ 12 := by
            have h1 := dps_len m5
            rw [List.length_map] at h1
            have h2 : y.rs.length ≤ (rows'.map fun y => y.rs.length).sum := mem_le_sum (f := fun y : Row1 => y.rs.length) (List.mem_of_getElem? hy)
            omega
          have nqu : q1 ≠ u := fun z => by
            rw [z, upd_same] at bu
            cases bu
          refine ⟨y.l, xs4, _, rfl, rfl, m4, small1000 (by omega), ?_⟩
          have hdp : Dp K (upd (upd B5 q1 (.tup (vec.map V.int))) u (.tup [.str tw, .ref q1, .int fc])) (.ref u) (Rd1.d ⟨tw, vec, fc⟩) := .tup (Or.inl (Or.inl upd_same)) (.cons (.str _) (.cons (.tup (Or.inl (Or.inl (by rw [upd_ne nqu]; exact upd_same))) (ints_dps _)) (.cons (.int _) .nil)))
          refine ⟨_, rows'.set k1.toNat { y with rs := y.rs ++ [⟨tw, vec, fc⟩] }, _, _, _, _, _, rfl, (R14.put m2 m3).mono (by omega), M14.put hy m4 hdp, same_tr s5 (same_tr (snew bq) (snew bu)), ?_, ?_, ?_, ?_⟩
          · exact (map_set_same hy (by rfl)).trans e1
          · exact (map_set_same hy (by rfl)).trans e2
          · exact (sum_set hy (by show (y.rs ++ [_]).length = _; rw [List.length_append]; rfl)).trans (by rw [e3])
          · intro z hz
            rcases List.mem_or_eq_of_mem_set hz with h | rfl
            · exact e4 z h
            · refine ⟨(e4 y (List.mem_of_getElem? hy)).1, fun rd hrd => ?_⟩
              rcases List.mem_append.mp hrd with h | h
              · exact (e4 y (List.mem_of_getElem? hy)).2 rd h
              · rw [List.mem_singleton.mp h]
                have hm := List.mem_of_getElem? htw
                refine ⟨?_, hm, hfc.2, hvb⟩
                unfold isRead
                rw [Bool.and_eq_true, Bool.and_eq_true]
                exact ⟨W.names _ hm, decide_eq_true hvl, by rw [decide_eq_false hfc.1]; rfl⟩
        · rintro σ H6 ⟨B5, rows', y6, y8, y9, y10, y11, rfl, R5, M5, s5, e1, e2, e3, e4⟩
          have hrl' : rows'.length = ws.length := by
            have := congrArg List.length e1
            rw [List.length_map] at this
            exact this
          have sc : ∀ {X : Hp}, Same X H6 → X r = none → Same X (cutr H6 r) := fun {X} e n b o h => by
            rw [cutr_ne (ne_of_none h n)]
            exact e b o h
          have s6 := sc R5.s R5.n
          refine ⟨_, rfl, q D (cutr H6 r) H6 (rows'.map Row1.tb) (same_tr s3 (same_tr s4 (same_tr s5 s6))) ((RS.cut R5.ok).mono (by omega)) ⟨_, s6 _ _ (s5 _ _ B4D), ?_⟩ (by rw [List.length_map]; omega) ?_ ?_ ?_ ?_ ?_⟩
          · rw [← e2, List.map_map]
            refine dps_of fun y hy => ?_
            obtain ⟨j, hj⟩ := List.mem_iff_getElem?.mp hy
            obtain ⟨a1, a2, a3, xs, a4, a5⟩ := M5.at_ j y hj
            exact .tup (sqt s6 a1) (.cons (.str _) (.cons (.int _) (.cons (.lst (Or.inl (Or.inl (by rw [cutr_ne a3.symm]; exact a4))) (dpsm s6 _ _ a5)) .nil)))
          · have en : (rows'.map Row1.tb).map (·.n) = ws := by
              rw [List.map_map]
              exact e1
            refine ⟨?_, by rw [en]; exact W.nodup, ?_, ?_, ?_⟩
            · intro t ht
              exact W.names _ (by rw [← en]; exact List.mem_map.mpr ⟨t, ht, rfl⟩)
            · rw [List.map_map]
              have : (rows'.map fun y => y.rs.length).sum ≤ 12 := by omega
              exact this
            · intro t ht rd hrd
              obtain ⟨y, hy, rfl⟩ := List.mem_map.mp ht
              exact ((e4 y hy).2 rd hrd).1
            · intro t ht rd hrd
              obtain ⟨y, hy, rfl⟩ := List.mem_map.mp ht
              rw [en]
              exact ((e4 y hy).2 rd hrd).2.1
          · intro t ht
            obtain ⟨y, hy, rfl⟩ := List.mem_map.mp ht
            exact W.oks _ (by rw [← e1]; exact List.mem_map.mpr ⟨y, hy, rfl⟩)
          · intro t ht
            obtain ⟨y, hy, rfl⟩ := List.mem_map.mp ht
            exact ⟨(e4 y hy).1, fun rd hrd => ((e4 y hy).2 rd hrd).2.2.1, fun rd hrd => ((e4 y hy).2 rd hrd).2.2.2⟩
          · have hm : ∀ t ∈ rows'.map Row1.tb, t.n ∈ ws := fun t ht => by
              obtain ⟨y, hy, rfl⟩ := List.mem_map.mp ht
              rw [← e1]
              exact List.mem_map.mpr ⟨y, hy, rfl⟩
            exact W.src.imp (fun h t ht => h _ (hm t ht)) fun h t ht => h _ (hm t ht)
          · rw [List.map_map]
            have : (((rows'.map fun y => y.rs.length).sum : Nat) : Int) ≤ most := by omega
            exact this
    · refine ⟨_, rfl, r, 3, _, rfl, R2.ok, by rw [List.length_map]; show m + 6 ≤ _; omega, by decide, by decide, fun d H3 d0 d1 D => ⟨rfl, _, rfl, ?_⟩⟩
      have R3 : RS r (m + 7) B2 H3 := (R2.dr D).mono (by rw [List.length_map]; show m + 6 + 1 ≤ _; omega)
      have hmem : ∀ x ∈ ws0.take many.toNat, x ∈ W0 := fun x hx => pw.mem_iff.mpr (List.mem_of_mem_take hx)
      have htl : (ws0.take many.toNat).length = many.toNat := by
        rw [List.length_take]
        omega
      refine ite2 (fun _ => ?_) (fun _ => ?_)
      · refine ⟨_, rfl, p2, rfl, ⟨_, Or.inl (Or.inl (R3.s _ _ b2at))⟩, fun D hD => lc_flat (walk_list (K := K) (a := p2) (xs := (ws0.take many.toNat).map V.str)) (fun i => .str (row5 (nth (ws0.take many.toNat) i))) (by rw [List.length_map, htl]; omega) hD (fun H' sm => Or.inl (Or.inl (sm _ _ (R3.s _ _ b2at)))) (fun i H x H' y => yat_same y) ?_ ?_⟩
        · rintro i x H4 H5 hi sm ⟨rfl, hx⟩ R hR
          rw [List.getElem?_map] at hx
          obtain ⟨z, hz, rfl⟩ := Option.map_eq_some_iff.mp hx
          have zz := W0_names z (hmem z (List.mem_of_getElem? hz))
          refine ⟨rfl, _, rfl, 5, rfl, z, rfl, Nat.le_trans zz.2.2.1 (by rw [sizeLine_eq]; decide), _, _, rfl, rfl, Nat.le_trans (Nat.add_le_add_left zz.2.2.2.2.2 _) (by rw [sizeLine_eq]; decide +kernel), ?_⟩
          have r := hR H5 same_refl
          rw [nth_of hz] at r
          exact r
        · intro H4 sm hD4
          rw [List.length_map, nthsf] at hD4
          have R4 := (R3.grow sm).keep hD4 (free_of R3.s hD) (R3.ne hD)
          refine ⟨D, _, (ws0.take many.toNat).map row5, rfl, R4, same_tr s02 (snew (free_of R3.s hD)), upd_same, ⟨by rw [List.length_map, htl], ?_, ?_, ?_, Or.inr fun x hx => ?_⟩⟩
          · rw [List.map_take]
            exact ((pw.map row5).nodup_iff.mp W0_nodup5).sublist (List.take_sublist _ _)
          · intro x hx
            obtain ⟨z, hz, rfl⟩ := List.mem_map.mp hx
            exact (W0_names z (hmem z hz)).2.1
          · intro x hx
            obtain ⟨z, hz, rfl⟩ := List.mem_map.mp hx
            exact (W0_names z (hmem z hz)).2.2.2.2.1
          · obtain ⟨z, hz, rfl⟩ := List.mem_map.mp hx
            exact List.mem_map.mpr ⟨z, hmem z hz, rfl⟩
      · exact ⟨p2, B2, _, rfl, R3, s02, b2at, htl, (pw.nodup_iff.mp W0_nodup).sublist (List.take_sublist _ _), fun x hx => (W0_names x (hmem x hx)).1, fun x hx => (W0_names x (hmem x hx)).2.2.2.1, Or.inl hmem⟩
end
end Fr

namespace Fr
open PySem PySem.Spec PyProof.Rows L2
def kw2 {α : Type} : List α → List α → List α
  | [], [c, s] => [s, c]
  | _, _ => []
structure CalK (P : Program) (w : World) (K : PySem.W.Frag) (mg : Str → Option Value) (base : Heap) (k : Nat) (x : Str) (sp : Sp) (ks : List Str) (gV : List V → List V → List V) : Prop where
  ex : ∃ (f : Addr) (fd : FuncData) (ps : List Str) (g : List Value → List Value → List Value), FnOk P w K mg base CX0 k f fd ps sp ∧ mg x = some (.ref f) ∧ PySem.W.keepIn K (.ref f) = true ∧ KBinds K fd ps ks g gV
theorem pe_ck {X : Cx} {k j : Nat} {x : Str} {sp : Sp} {ks : List Str} {gV : List V → List V → List V} {kws : List Keyword} {tk : TA} {p pos : Pos} (c : CalK X.prog X.w X.K X.mg X.base k x sp ks gV) (hr : Room j X.A) (hk : k ≤ j) (hg : Gl X x) (hkw : PK X kws tk)
    (hall : (backToKw pos (keywordEach kws X.env)).all (·.1.isSome) = true := by rfl) (hks : (backToKw pos (keywordEach kws X.env)).filterMap (·.1) = ks := by rfl) (hdb : (x == ("__debug__" : Str)) = false := by decide)
    (hpl : ((backTo pos (starEach [] X.env)).any (·.1) || (backToKw pos (keywordEach kws X.env)).any (·.1.isNone)) = false := by rfl) :
    PE X (.Call (.Name x p) [] kws pos) (tCallK sp gV C8.E0 tNil tk) := by
  obtain ⟨f, fd, ps, g, F, hm, kp, hb⟩ := c.ex
  refine ⟨fun pins s σ H Q I h => ?_⟩
  refine wpAny_Call_Name_kw (ld_glob I hg hm ?_ hdb)
  refine PySem.W.callWith_KW0 (h₀ := X.base) I.ok.mod.kin kp hall (thn (hkw.run pos pins s σ H _ I h) fun ws s2 ⟨zs, H2, I2, rz, q2⟩ => ⟨I2.kIn, ?_⟩) hpl
  rw [hks]
  exact run_fnk (us := []) (vs := []) F (hr.mono hk) hb pass0 I2 .nil rz q2
def bs (H : Hp) (r : Addr) : Hp := fun b => if b = r then none else match H b with
  | some (.tbl _) => none
  | o => o
theorem bs_of {H : Hp} {r b : Addr} {o : HO} (h : H b = some o) (n : b ≠ r) (t : ∀ ps, o ≠ .tbl ps) : bs H r b = some o := by
  unfold bs
  rw [if_neg n, h]
  cases o <;> first | rfl | exact absurd rfl (t _)
theorem of_bs {H : Hp} {r b : Addr} {o : HO} (h : bs H r b = some o) : H b = some o ∧ b ≠ r ∧ ∀ ps, o ≠ .tbl ps := by
  unfold bs at h
  by_cases n : b = r
  · rw [if_pos n] at h
    cases h
  · rw [if_neg n] at h
    cases e : H b with
    | none =>
      rw [e] at h
      cases h
    | some u =>
      rw [e] at h
      cases u <;> first | (cases h; exact ⟨rfl, n, fun ps z => by cases z⟩) | cases h
structure LS (TT : List (Addr × Str)) (r : Addr) (m : Nat) (B H : Hp) : Prop where
  rs : RS r m B H
  tb : LamX.Tabs TT H
  nt : ∀ b ps, B b ≠ some (.tbl ps)
theorem tabs_dr {TT : List (Addr × Str)} {r : Addr} {m m' : Nat} {H H' : Hp} (hT : LamX.Tabs TT H) (h : RngOk H r m) (d : Dr r m' H H') : LamX.Tabs TT H' := by
  obtain ⟨a, b, c, h1, _⟩ := h
  obtain ⟨a', b', c', h2, _⟩ := d.ok
  have e : H' = upd H r (.lst [.int a', .int b', .int c']) := funext fun x => by
    by_cases hx : x = r
    · rw [hx, h2, upd_same]
    · rw [upd_ne hx, d.ne x hx]
  rw [e]
  exact tabs_lst hT h1
theorem LS.dr {TT : List (Addr × Str)} {r : Addr} {m m' : Nat} {B H H' : Hp} (h : LS TT r m B H) (d : Dr r m' H H') : LS TT r m' B H' := ⟨h.rs.dr d, tabs_dr h.tb h.rs.ok d, h.nt⟩
theorem LS.new {TT : List (Addr × Str)} {r p : Addr} {m : Nat} {B H : Hp} {o : HO} (h : LS TT r m B H) (e : H p = none) : LS TT r m B (upd H p o) := ⟨h.rs.new e, h.tb.ext (snew e), h.nt⟩
theorem LS.grow {TT : List (Addr × Str)} {r : Addr} {m : Nat} {B H H' : Hp} (h : LS TT r m B H) (e : Same H H') : LS TT r m B H' := ⟨h.rs.grow e, h.tb.ext e, h.nt⟩
theorem LS.put {TT : List (Addr × Str)} {r p : Addr} {m : Nat} {B H : Hp} {o : HO} {xs : List V} (h : LS TT r m B H) (e : B p = none) (n : r ≠ p) (l : H p = some (.lst xs)) : LS TT r m B (upd H p o) := ⟨h.rs.put e n, tabs_lst h.tb l, h.nt⟩
theorem LS.mono {TT : List (Addr × Str)} {r : Addr} {m m' : Nat} {B H : Hp} (h : LS TT r m B H) (e : m ≤ m') : LS TT r m' B H := ⟨h.rs.mono e, h.tb, h.nt⟩
/-- a base of its own -/
theorem LS.own {TT : List (Addr × Str)} {r : Addr} {m : Nat} {H : Hp} (h : RngOk H r m) (t : LamX.Tabs TT H) : LS TT r m (bs H r) H := ⟨⟨fun b o e => (of_bs e).1, by
  cases e : bs H r r with
  | none => rfl
  | some o => exact absurd rfl (of_bs e).2.1, h⟩, t, fun b ps e => (of_bs e).2.2 ps rfl⟩
theorem tabs_cut {TT : List (Addr × Str)} {r : Addr} {m : Nat} {H H' : Hp} (hT : LamX.Tabs TT H) (h : RngOk H r m) (s : Same (cutr H r) H') : LamX.Tabs TT H' := by
  obtain ⟨a, b, c, h1, _⟩ := h
  intro p hp
  obtain ⟨ps, e1, e2, e3⟩ := hT p hp
  refine ⟨ps, s _ _ ?_, e2, fun pos cv hc => ?_⟩
  · rw [cutr_ne fun z => by rw [z, h1] at e1; cases e1]
    exact e1
  · obtain ⟨c', f1, f2⟩ := e3 pos cv hc
    refine ⟨c', f1, s _ _ ?_⟩
    rw [cutr_ne fun z => by rw [z, h1] at f2; unfold LamX.CodeO at f2; cases f2]
    exact f2
def tupo : HO → Bool
  | .tup _ => true
  | .frz _ (.tup _) => true
  | _ => false
def ST (H H' : Hp) : Prop := ∀ b o, H b = some o → tupo o = true → H' b = some o
theorem ST.of {H H' : Hp} (e : Same H H') : ST H H' := fun b o h _ => e b o h
theorem ST.tr {A B C : Hp} (a : ST A B) (b : ST B C) : ST A C := fun x o h d => b x o (a x o h d) d
theorem ST.put {H : Hp} {l : Addr} {xs : List V} {o : HO} (h : H l = some (.lst xs)) : ST H (upd H l o) := fun b u e d => by
  rw [upd_ne fun z => by rw [z, h] at e; cases e; cases d]
  exact e
theorem ST.dr {H H' : Hp} {r : Addr} {m m' : Nat} (h : RngOk H r m) (d : Dr r m' H H') : ST H H' := fun b u e t => by
  obtain ⟨x, y, z, h1, _⟩ := h
  rw [d.ne b fun q => by rw [q, h1] at e; cases e; cases t]
  exact e
theorem ST.bs {H : Hp} {r : Addr} {m : Nat} (h : RngOk H r m) : ST H (Fr.bs H r) := fun b u e t => by
  obtain ⟨x, y, z, h1, _⟩ := h
  refine bs_of e (fun q => ?_) fun ps q => ?_
  · rw [q, h1] at e
    cases e
    cases t
  · rw [q] at t
    cases t
mutual
def noL : PyData → Bool
  | .list _ => false
  | .tuple ds => noLs ds
  | .dict _ => false
  | .none => true
  | .bool _ => true
  | .int _ => true
  | .str _ => true
def noLs : List PyData → Bool
  | [] => true
  | d :: ds => noL d && noLs ds
end
theorem noLs_map {α : Type} {g : α → PyData} (h : ∀ x, noL (g x) = true) : ∀ xs : List α, noLs (xs.map g) = true
  | [] => rfl
  | x :: xs => by
    show (noL (g x) && noLs (xs.map g)) = true
    rw [h x, noLs_map h xs]
    rfl
theorem noL_ints (ns : List Int) : noLs (ns.map PyData.int) = true := noLs_map (fun _ => rfl) ns
theorem noL_rd (r : Rd1) : noL r.d = true := by
  show (true && (noLs (r.v.map PyData.int) && (true && true))) = true
  rw [noL_ints]
  rfl
theorem noL_k (t : Tb) : noL t.k = true := by
  show (true && (noLs (t.rs.map Rd1.d) && true)) = true
  rw [noLs_map noL_rd]
  rfl
section
variable {K : PySem.W.Frag}
theorem sqtt {H H' : Hp} (e : ST H H') {a : Addr} {xs : List V} (h : SqT K H a xs) : SqT K H' a xs := by
  rcases h with (h | ⟨o, h⟩) | h
  · exact .inl (.inl (e _ _ h rfl))
  · exact .inl (.inr ⟨o, e _ _ h rfl⟩)
  · exact .inr h
mutual
theorem dpt {H H' : Hp} (e : ST H H') : ∀ (d : PyData) (v : V), noL d = true → Dp K H v d → Dp K H' v d
  | .none, _, _, h => by cases h; exact .non
  | .bool b, _, _, h => by cases h; exact .bl b
  | .int i, _, _, h => by cases h; exact .int i
  | .str x, _, _, h => by cases h; exact .str x
  | .list ds, _, n, h => by cases n
  | .tuple ds, _, n, h => by
    cases h with
    | tup hs ha => exact .tup (sqtt e hs) (dpst e ds _ n ha)
  | .dict _, _, _, h => by cases h
theorem dpst {H H' : Hp} (e : ST H H') : ∀ (ds : List PyData) (vs : List V), noLs ds = true → DpAll K H vs ds → DpAll K H' vs ds
  | [], _, _, h => by cases h; exact .nil
  | d :: ds, _, n, h => by
    have n' : (noL d && noLs ds) = true := n
    rw [Bool.and_eq_true] at n'
    cases h with
    | cons h1 h2 => exact .cons (dpt e d _ n'.1 h1) (dpst e ds _ n'.2 h2)
end
theorem kvt {H H' : Hp} (e : ST H H') : ∀ {kvs : List (Key × V)} {ts : List Tb}, KvAt K H kvs ts → KvAt K H' kvs ts
  | [], _, h => by cases h; exact .nil
  | kv :: kvs, _, h => by
    cases h with
    | cons h1 h2 => exact .cons ⟨h1.1, dpt e _ _ (noL_k _) h1.2⟩ (kvt e h2)
end
section
variable {P : Program} {w : World} {K : PySem.W.Frag} {mg : Str → Option Value} {base : Heap}
theorem sd_bs {B H : Hp} {r : Addr} (s : Same B H) (n : B r = none) : SD B (bs H r) := fun b o h d => bs_of (s b o h) (ne_of_none h n) fun ps z => by
  rw [z] at d
  cases d
theorem SysAt.bs {C : Addr} {H : Hp} {r s : Addr} {m : Nat} {d md : Int} {ts : List Tb} (h : SysAt K C H s d md ts) (hr : RngOk H r m) (e : ∀ kvs, KvAt K H kvs ts → KvAt K (Fr.bs H r) kvs ts) : SysAt K C (Fr.bs H r) s d md ts := by
  obtain ⟨dx, t, kvs, h1, h2, h3⟩ := h.ob
  obtain ⟨a, b, c, h4, _⟩ := hr
  refine ⟨dx, t, kvs, bs_of h1 (fun z => ?_) (fun ps z => by cases z), bs_of h2 (fun z => ?_) (fun ps z => by cases z), e _ h3⟩
  · rw [z, h4] at h1
    cases h1
  · rw [z, h4] at h2
    cases h2
theorem find_nodup {x : Str} : ∀ {ts : List Tb} {tb : Tb}, (ts.map (·.n)).Nodup → tb ∈ ts → tb.n = x → ts.find? (fun t => decide (t.n = x)) = some tb
  | [], _, _, h, _ => by cases h
  | t :: ts, tb, n, h, e => by
    rw [List.map_cons, List.nodup_cons] at n
    rcases List.mem_cons.mp h with rfl | h
    · exact List.find?_cons_of_pos (by simpa using e)
    · rw [List.find?_cons_of_neg fun z => n.1 (by
        have : t.n = x := of_decide_eq_true z
        rw [this, ← e]
        exact List.mem_map.mpr ⟨tb, h, rfl⟩)]
      exact find_nodup n.2 h e
end
end Fr

namespace Fr
open PySem PySem.Spec PyProof.Rows L2
inductive KvEq (K : PySem.W.Frag) (H : Hp) (ls : List (Key × V)) : List (Key × V) → Bool → Prop
  | nil : KvEq K H ls [] true
  | miss {k : Key} {v : V} {r : List (Key × V)} : valV ls k = none → KvEq K H ls ((k, v) :: r) false
  | hit {k : Key} {v u : V} {r : List (Key × V)} {d e : PyData} {b : Bool} : valV ls k = some u → Dp K H v d → Dp K H u e → SeqAt.shaped d = true → SeqAt.shaped e = true → KvEq K H ls r b → KvEq K H ls ((k, v) :: r) (PyData.eqv d e && b)
def rEqKv (K : PySem.W.Frag) : R2 := fun x y H Q => ∃ (a b : Addr) (ks ls : List (Key × V)) (r : Bool), x = .ref a ∧ y = .ref b ∧ H a = some (.dK ks) ∧ H b = some (.dK ls) ∧ (ks.length = ls.length → KvEq K H ls ks r) ∧ Q (.bl (ks.length == ls.length && r)) H
section
variable {X : Cx} {pins : List (Addr × Obj)} {σ : L2.St} {H : Hp} {s : Shared}
theorem kvHits (I : Inv X pins σ H s) {A : Around} (hu : A.units + 64 < cLine) {ls : List (Key × V)} {vb : List (Key × Value)} (rb : KV ls vb) {ks : List (Key × V)} {r : Bool} (h : KvEq X.K H ls ks r) :
    ∀ {va : List (Key × Value)}, KV ks va → PySem.W.KeqHitsP X.prog X.w A s vb va r := by
  induction h with
  | nil =>
    intro va ra
    cases ra
    exact .nil
  | @miss k v t hv =>
    intro va ra
    cases ra with
    | @cons _ q _ qs h1 h2 =>
      obtain ⟨key, u⟩ := q
      obtain ⟨h1, h3⟩ := h1
      have h1' : k = key := h1
      subst h1'
      exact .miss (RelO.none_of (by rw [← hv]; exact rb.val k))
  | @hit k v u t d e b hv hd he sd se _ ih =>
    intro va ra
    cases ra with
    | @cons _ q _ qs h1 h2 =>
      obtain ⟨key, w⟩ := q
      obtain ⟨h1, h3⟩ := h1
      have h1' : k = key := h1
      subst h1'
      have rr : RelO (some u) (valueAt vb k) := by rw [← hv]; exact rb.val k
      obtain ⟨y, hy, ry⟩ := rr.some_of
      obtain ⟨as, q1⟩ := Dp.reads I d _ _ hd h3
      obtain ⟨bs, q2⟩ := Dp.reads I e _ _ he ry
      exact .hit hy (SeqAt.eqAt_reads d e A s _ _ as bs q1 q2 (SeqAt.canLay_of_shaped sd) (SeqAt.canLay_of_shaped se) (SeqAt.room_of_shaped sd hu)).eqP (ih h2)
theorem op_eqKv (hu : X.A.units + 65 < cLine) : OpR X (compareOp .Eq) (rEqKv X.K) := by
  intro pins s σ H x y v u Q I rx ry h
  obtain ⟨a, b, ks, ls, r, rfl, rfl, ha, hb, hr, q⟩ := h
  cases (show v = Value.ref a from rx)
  cases (show u = Value.ref b from ry)
  obtain ⟨_, ya, va, ra, da⟩ := (show ObjOk X.prog X.w H s.heap a (.dK ks) from I.hok a _ ha)
  obtain ⟨_, yb, vb, rb, db⟩ := (show ObjOk X.prog X.w H s.heap b (.dK ls) from I.hok b _ hb)
  have e1 : va.length = ks.length := ra.length.symm
  have e2 : vb.length = ls.length := rb.length.symm
  refine PySem.W.rcP_dicts (knd := mixKind X.prog X.w) (r := r) ya yb da db (by omega) (fun e => kvHits I (by show X.A.units + 1 + 64 < cLine; omega) rb (hr (by omega)) ra) _ _ ?_
  rw [e1, e2]
  exact ⟨.bl _, H, I, rfl, q⟩
end
structure EqM (P : Program) (w : World) (K : PySem.W.Frag) (mg : Str → Option Value) (base : Heap) (k : Nat) (C : Addr) (sp : Sp) : Prop where
  ex : ∃ (f : Addr) (fd : FuncData) (ps : List Str), Cls K C ∧ PySem.W.findIn K (.ref C) "__eq__" = some (some (.ref f)) ∧ PySem.W.isFn K (.ref f) = true ∧ FnOk P w K mg base CX0 k f fd ps sp ∧ Binds K fd ps []
def rEqOwn (C : Addr) (sp : Sp) : R2 := fun x y H Q => ∃ (a b dx dy : Addr) (fs gs : List (Str × V)), x = .ref a ∧ y = .ref b ∧ H a = some (.ins C dx fs) ∧ H b = some (.ins C dy gs) ∧ sp [.ref a, .ref b] H (fun v H' => ∃ r, v = .bl r ∧ Q (.bl r) H') C8.E0
theorem op_eqOwn {X : Cx} {k j : Nat} {C : Addr} {sp : Sp} (c : EqM X.prog X.w X.K X.mg X.base k C sp) (hr : Room j X.A) (hk : k ≤ j) : OpR X (compareOp .Eq) (rEqOwn C sp) := by
  intro pins s σ H x y v u Q I rx ry h
  obtain ⟨a, b, dx, dy, fs, gs, rfl, rfl, ha, hb, h⟩ := h
  cases (show v = Value.ref a from rx)
  cases (show u = Value.ref b from ry)
  obtain ⟨f, fd, ps, hc, hs, hf, F, hbd⟩ := c.ex
  obtain ⟨mA, J, _⟩ := ins_get I.hok ha
  obtain ⟨mB, J', _⟩ := ins_get I.hok hb
  obtain ⟨od, J, _⟩ := J.look
  obtain ⟨od', J', _⟩ := J'.look
  obtain ⟨m, hF⟩ := I.fr
  have hu : X.A.units < cLine := (hr.mono hk).units0
  refine PySem.W.cmp_K (op := .Eq) (tb := .ref C) hu hF I.ok.mod.kin J J'.type (by simp [PySem.W.notFirst]) hs hf ?_
  refine wpAny_mono (run_fn (us := [.ref a, .ref b]) (vs := [.ref a, .ref b]) F (hr.mono hk) hbd .nil pass0 I (.cons rfl (.cons rfl .nil)) h) (fun r s' q => ?_) fun _ _ x => x
  obtain ⟨z, H', I', rz, t, rfl, q⟩ := q
  obtain rfl : r = Value.bool t := rz
  exact ⟨.bl t, H', I', rfl, q⟩
structure MetK (P : Program) (w : World) (K : PySem.W.Frag) (mg : Str → Option Value) (base : Heap) (k : Nat) (C : Addr) (m : Str) (sp : Sp) (ks : List Str) (gV : List V → List V → List V) : Prop where
  ex : ∃ (f : Addr) (fd : FuncData) (ps : List Str) (g : List Value → List Value → List Value), Cls K C ∧ Meth K C m f ∧ FnOk P w K mg base CX0 k f fd ps sp ∧ KBinds K fd ps ks g gV
def tMethK (C : Addr) (m : Str) (sp : Sp) (gV : List V → List V → List V) (E : XK) (ta : TE) (tk : TA) : TE := fun σ H Q => ta σ H fun x H1 => ∃ a dx fs, x = .ref a ∧ H1 a = some (.ins C dx fs) ∧ fs.lookup m = none ∧
  tk σ H1 fun zs H2 => sp (gV [x] zs) H2 Q E
theorem pe_mtk {X : Cx} {k j : Nat} {C : Addr} {m : Str} {sp : Sp} {ks : List Str} {gV : List V → List V → List V} {o : Expr} {kws : List Keyword} {ta : TE} {tk : TA} {apos pos : Pos} {pl : Sem Bool} (c : MetK X.prog X.w X.K X.mg X.base k C m sp ks gV) (hr : Room j X.A) (hk : k ≤ j) (he : PE X o ta) (hkw : PK X kws tk)
    (hall : (backToKw pos (keywordEach kws X.env)).all (·.1.isSome) = true := by rfl) (hks : (backToKw pos (keywordEach kws X.env)).filterMap (·.1) = ks := by rfl)
    (hpl : ((backTo pos (starEach [] X.env)).any (·.1) || (backToKw pos (keywordEach kws X.env)).any (·.1.isNone)) = false := by rfl)
    (ht : eval (.Call (.Attribute o m apos) [] kws pos) X.env = (do
      let ov ← eval o X.env
      standAt apos.atName
      let (f, first) ← holding [ov] (getMethod ov m pl)
      callWith pos f first (backTo pos (starEach [] X.env)) (backToKw pos (keywordEach kws X.env))) := by rfl) :
    PE X (.Call (.Attribute o m apos) [] kws pos) (tMethK C m sp gV C8.E0 ta tk) := by
  obtain ⟨f, fd, ps, g, hc, hm, F, hb⟩ := c.ex
  refine ⟨fun pins s σ H Q I h => ?_⟩
  refine PySem.W.methodCall_KW (pl := pl) (thn (he.run pins s σ H _ I h) fun u s1 ⟨x, H1, I1, rx, a, dx, fs, ex, ea, l, q⟩ => ?_) ht
  subst ex
  obtain rfl : u = Value.ref a := rx
  refine getmeth_ok I1 ea hc hm l ?_
  refine PySem.W.callWith_KW0 (first := [.ref a]) (h₀ := X.base) I.ok.mod.kin hm.kp hall (thn (hkw.run pos pins s1 σ H1 _ I1 q) fun ws s2 ⟨zs, H2, I2, rz, q2⟩ => ⟨I2.kIn, ?_⟩) hpl
  rw [hks]
  exact run_fnk (us := [.ref a]) (vs := [.ref a]) F (hr.mono hk) hb pass0 I2 (.cons rfl .nil) rz q2
def kw1 {α : Type} : List α → List α → List α
  | [s], [c] => [s, c]
  | _, _ => []
end Fr

namespace Fr
open PySem PySem.Spec PyProof.Rows L2
theorem iter_dict : typeLookup (.type "dict") "__iter__" = pure (some (.builtin "dict.__iter__")) := by rw [typeLookup_type, builtinLookup_eq_fast]; kernel_rfl
section
variable {prog : Program} {w : World} {A : Around} {E : Value → Shared → Prop} {s : Shared}
theorem wp_putNew {d : Addr} {kvs : List (Key × Value)} {k : Key} {x v : Value} {Q : Unit → Shared → Prop} (hx : (mixKind prog w).is k x = true) (hm : s.heap.DictOf (mixKind prog w) d kvs) (hno : k ∉ kvs.map (·.1))
    (hQ : ∀ h', h'.DictOf (mixKind prog w) d (kvs ++ [(k, v)]) → Heap.SameBut d s.heap h' → Q () { s with heap := h' }) (hsz : kvs.length ≤ sizeLine) :
    wpAny (model prog w) A (dictPut d ((mixKind prog w).hash k) x v) Q E s := by
  obtain ⟨o, es, ep, ho, hc, hd, hk, hp, hn⟩ := hm
  have hes : es.size ≤ sizeLine := by
    have e1 := hp.length
    rw [Array.length_toList] at e1
    omega
  unfold dictPut
  refine wpAny_bind (wpAny_dictFind_of hx ho hd hk ?_)
  have hidx : (es.findIdx? fun e => (mixKind prog w).is k e.key) = none := by
    have z : (es.findIdx? fun e => (mixKind prog w).is k e.key) = kvs.findIdx? fun kv => decide (kv.1 = k) := by
      rw [← hp.findIdx k]
      obtain ⟨l⟩ := es
      simp
    rw [z, List.findIdx?_eq_none_iff]
    intro kv hkv
    exact decide_eq_false fun e => hno (List.mem_map.mpr ⟨kv, hkv, e⟩)
  rw [hidx]
  refine wpAny_updateDictKeys (hz := hes) ho hd (hQ _ ⟨_, _, ep + 1, Heap.get?_update_self _ ho (Obj.isFreed_of_dict (Obj.data_mapDictKeys hd _)), hc.mapDictKeys _, Obj.data_mapDictKeys hd _, hk.push hx _, ?_, ?_⟩ (Heap.SameBut.update ..))
  · have z := hp.append hx ((mixKind prog w).hash k) v
    obtain ⟨l⟩ := es
    simpa using z
  · rw [List.map_append, List.nodup_append]
    refine ⟨hn, by simp, ?_⟩
    intro a ha b hb
    rw [List.mem_singleton.mp hb]
    exact fun e => hno (by rw [e] at ha; exact ha)
theorem wp_mergeMap {d o : Addr} {kvs more : List (Key × Value)} {Q : Unit → Shared → Prop} (hdo : d ≠ o) (hoS : (o == sysModules) = false) (hd : s.heap.DictOf (mixKind prog w) d kvs) (ho : s.heap.DictOf (mixKind prog w) o more)
    (hnd : ((kvs ++ more).map (·.1)).Nodup) (hsz : kvs.length + more.length ≤ sizeLine) (hQ : ∀ h', h'.DictOf (mixKind prog w) d (kvs ++ more) → Heap.SameBut d s.heap h' → Q () { s with heap := h' }) :
    wpAny (model prog w) A (mergeMapping d (.ref o) false) Q E s := by
  obtain ⟨od, esd, epd, hod, hcd, hdd, hkd, hpd, hnd'⟩ := id hd
  obtain ⟨oo, eso, epo, hoo, hco, hdo', hko, hpo, hno⟩ := id ho
  have hlen : more.length = eso.size := by
    rw [← hpo.length]
    simp
  unfold mergeMapping
  refine wpAny_bind (wpAny_isInstance (T := "dict") ho.typeIs PySem.F.sub_dict_dict ?_)
  rw [if_pos rfl]
  refine wpAny_bind (wpAny_specialOf ho.typeIs iter_dict ?_)
  refine wpAny_bind (wpAny_pure ?_)
  have hb : ((some (Value.builtin "dict.__iter__") : Option Value) == some (Value.builtin "dict.__iter__")) = true := by rfl
  rw [hb]
  dsimp only
  rw [if_neg (by rw [hoS]; exact Bool.false_ne_true)]
  have tail : ∀ {T : Sem Unit}, T = (do
      let l ← dictEntries o
      let epoch ← dictEpoch o
      forIn (List.range l.size) PUnit.unit fun i (_ : PUnit) => (do
        let l' ← dictEntries o
        match l'[i]? with
          | some e => do
            holding [e.key, e.val] (dictPut d e.hash e.key e.val)
            let ep' ← dictEpoch o
            if (ep' != epoch) = true then do
                (unsupported "dict.changed-during-merge" : Sem PUnit)
                pure (ForInStep.yield PUnit.unit)
              else pure (ForInStep.yield PUnit.unit)
          | _ => do
            (unsupported "dict.changed-during-merge" : Sem PUnit)
            pure (ForInStep.yield PUnit.unit) : Sem (ForInStep PUnit))
      pure ()) → wpAny (model prog w) A T Q E s := by
    intro T hT
    rw [hT]
    refine wpAny_bind (wpAny_dictEntries hoo hdo' ?_)
    refine wpAny_bind (wpAny_dictEpoch hoo hdo' ?_)
    refine wpAny_bind ?_
    refine wpAny_forIn_list _ (fun rest _ s' => ∃ h' i, s' = { s with heap := h' } ∧ rest = (List.range eso.size).drop i ∧ i ≤ eso.size ∧ h'.DictOf (mixKind prog w) d (kvs ++ more.take i) ∧ h'.get? o = some oo ∧ Heap.SameBut d s.heap h') _ ?_ ?_ _ _
      ⟨s.heap, 0, rfl, rfl, Nat.zero_le _, by rw [List.take_zero, List.append_nil]; exact hd, hoo, Heap.SameBut.refl _ _⟩
    · rintro x rest b s' ⟨h', i, rfl, hr, hi, hd', hoo', hs'⟩
      have hlt : i < eso.size := by
        rcases Nat.lt_or_ge i eso.size with h | h
        · exact h
        · rw [List.drop_of_length_le (by simpa using h)] at hr
          cases hr
      rw [List.drop_eq_getElem_cons (by simpa using hlt)] at hr
      injection hr with h1 h2
      rw [List.getElem_range] at h1
      subst h1
      refine wpAny_bind (wpAny_dictEntries hoo' hdo' ?_)
      rw [Array.getElem?_eq_getElem hlt]
      obtain ⟨⟨k, v⟩, hkv⟩ : ∃ kv, more[x]? = some kv := ⟨more[x]'(by omega), List.getElem?_eq_getElem _⟩
      obtain ⟨hkey, hval⟩ := hpo.get? (e := eso[x]) (by simp [hlt]) hkv
      obtain ⟨k', hkey', hhash⟩ := hko eso[x] (Array.getElem_mem hlt)
      obtain rfl : k' = k := (mixKind prog w).inj _ _ _ hkey' hkey
      have hlm : x < more.length := by omega
      have hno' : k' ∉ (kvs ++ more.take x).map (·.1) := fun hm => by
        have z : ((kvs ++ more).map (·.1)).Nodup := hnd
        have e2 : kvs ++ more = (kvs ++ more.take x) ++ ((k', v) :: more.drop (x + 1)) := by
          rw [List.append_assoc]
          congr 1
          have g : more[x] = (k', v) := by
            rw [List.getElem?_eq_getElem hlm] at hkv
            exact Option.some.inj hkv
          rw [← g, ← List.drop_eq_getElem_cons hlm, List.take_append_drop]
        rw [e2, List.map_append, List.nodup_append] at z
        exact z.2.2 k' hm k' (by rw [List.map_cons]; exact List.mem_cons_self) rfl
      show wpAny _ _ (holding [eso[x].key, eso[x].val] (dictPut d eso[x].hash eso[x].key eso[x].val) >>= _) _ _ _
      rw [hhash, hval]
      refine wpAny_bind (wpAny_holding (wp_putNew hkey hd' hno' (fun h'' hd'' hs'' => ?_) (by rw [List.length_append, List.length_take]; omega)))
      have hoo'' : h''.get? o = some oo := (hs''.2 o (Ne.symm hdo)).trans hoo'
      refine wpAny_bind (wpAny_dictEpoch hoo'' hdo' ?_)
      rw [if_neg (by simp)]
      exact wpAny_pure ⟨h'', x + 1, rfl, h2, hlt, by rw [List.take_add_one, hkv, ← List.append_assoc]; exact hd'', hoo'', hs'.trans hs''⟩
    · rintro b s' ⟨h', i, rfl, hr, hi, hd', hoo', hs'⟩
      have hin : i = eso.size := by
        rcases Nat.lt_or_ge i eso.size with h | h
        · rw [List.drop_eq_getElem_cons (by simpa using h)] at hr
          cases hr
        · exact Nat.le_antisymm hi h
      refine wpAny_pure (hQ h' ?_ hs')
      rw [hin, ← hlen, List.take_length] at hd'
      exact hd'
  refine wpAny_bind (wpAny_dictEntries hod hdd ?_)
  split
  · refine wpAny_bind (wpAny_dictEntries hoo hdo' ?_)
    refine wpAny_bind ?_
    rw [← Array.forIn_toList]
    refine wpAny_forIn_list _ (fun rest _ s' => s' = s ∧ ∀ e ∈ rest, e ∈ eso.toList) _ ?_ ?_ _ _ ⟨rfl, fun e he => he⟩
    · rintro x rest b s' ⟨rfl, hm⟩
      obtain ⟨k, hk, _⟩ := hko x (by simpa using hm x List.mem_cons_self)
      have hk : keyIs k x.key = true := hk
      rcases keyIs_shape hk with ⟨i, t, _, e⟩ | ⟨z, t, _, e⟩
      · rw [e]
        exact wpAny_pure ⟨rfl, fun y hy => hm y (List.mem_cons_of_mem _ hy)⟩
      · rw [e]
        exact wpAny_pure ⟨rfl, fun y hy => hm y (List.mem_cons_of_mem _ hy)⟩
    · rintro b s' ⟨rfl, _⟩
      exact tail rfl
  · exact tail rfl
end
end Fr

namespace Fr
open PySem PySem.Spec PyProof.Rows L2
theorem kv_keys : ∀ {kvs : List (Key × V)} {vs : List (Key × Value)}, KV kvs vs → vs.map (·.1) = kvs.map (·.1)
  | [], _, h => by cases h; rfl
  | p :: kvs, _, h => by
    cases h with
    | cons h1 h2 =>
      rw [List.map_cons, List.map_cons, kv_keys h2, h1.1]
theorem kv_app : ∀ {kvs ls : List (Key × V)} {vs us : List (Key × Value)}, KV kvs vs → KV ls us → KV (kvs ++ ls) (vs ++ us)
  | [], _, _, _, h, k => by cases h; exact k
  | p :: kvs, _, _, _, h, k => by
    cases h with
    | cons h1 h2 => exact .cons h1 (kv_app h2 k)
def tMrg (t1 t2 : TE) : TE := fun σ H Q => ∀ p, H p = none → t1 σ (upd H p (.dK [])) fun x H1 => ∃ (a : Addr) (ks : List (Key × V)), x = .ref a ∧ H1 a = some (.dK ks) ∧ a ≠ p ∧ H1 p = some (.dK []) ∧ (ks.map (·.1)).Nodup ∧
  t2 σ (upd H1 p (.dK ks)) fun y H2 => ∃ (b : Addr) (ls : List (Key × V)), y = .ref b ∧ H2 b = some (.dK ls) ∧ b ≠ p ∧ H2 p = some (.dK ks) ∧ ((ks ++ ls).map (·.1)).Nodup ∧ ks.length + ls.length ≤ sizeLine ∧ Q (.ref p) (upd H2 p (.dK (ks ++ ls)))
theorem pe_mrg {X : Cx} {e1 e2 : Expr} {t1 t2 : TE} {pos : Pos} (he1 : PE X e1 t1) (he2 : PE X e2 t2) : PE X (.Dict [none, none] [e1, e2] pos) (tMrg t1 t2) := by
  refine ⟨fun pins s σ H Q I q => ?_⟩
  rw [arm_eval_Dict]
  refine wpAny_bind (wpAny_standAt ?_)
  show wpAny _ _ (dictDisplay [(none, do let x ← eval e1 X.env; standAt pos; pure x), (none, do let x ← eval e2 X.env; standAt pos; pure x)]) _ _ s
  unfold dictDisplay
  dsimp only
  simp only [List.forIn_cons, List.forIn_nil]
  have hn := I.hok.fresh (Nat.le_refl s.heap.objs.size)
  have I1 := I.laid (a := s.heap.objs.size) (o := .dK []) (h' := s.heap.push { cls := .type "dict", data := .dict #[] }) (t' := s.toks) (fun _ _ q => Heap.get?_push_of_some _ q) (Nat.le_refl _) (dk_empty s.heap I.big)
  refine wpAny_bind (wpAny_bind (wpAny_bind ?_))
  show wpAny _ _ (pure none) _ _ _
  refine wpAny_pure ?_
  dsimp only
  refine wpAny_bind (wpAny_alloc ?_)
  refine wpAny_bind (wpAny_holding (wpAny_bind (thn (he1.run pins _ σ _ _ I1 (q s.heap.objs.size hn)) fun u s1 ⟨x, H1, I2, rx, a, ks, ex, ha, nap, hp, nd, q2⟩ => wpAny_bind (wpAny_standAt (wpAny_pure ?_)))))
  subst ex
  obtain rfl : u = Value.ref a := rx
  obtain ⟨zp, hdp, vs0, r0, ddp⟩ := dk_of I2.hok hp
  cases r0
  obtain ⟨za, hda, va, ra, dda⟩ := dk_of I2.hok ha
  have nva : (va.map (·.1)).Nodup := by
    have e : va.map (·.1) = ks.map (·.1) := kv_keys ra
    rw [e]
    exact nd
  refine wpAny_bind (wpAny_onRaise (wpAny_tryCatch (wpAny_onRaise (wpAny_holding (wp_mergeMap (Ne.symm nap) hda ddp dda (by simpa using nva) (by simpa using (by rw [← ra.length]; exact za)) fun h2 dd2 sb2 => ?_)))))
  have I3 : Inv X pins σ (upd H1 s.heap.objs.size (.dK ks)) { s1 with heap := h2, toks := s1.toks } := d_write I2 (by rw [hp]; exact True.intro) sb2 (let ⟨q, _, _, hq, _⟩ := dd2; ⟨q, hq⟩) (dk_new za hdp ra (by simpa using dd2))
  refine wpAny_pure ?_
  dsimp only
  refine wpAny_bind (wpAny_bind ?_)
  show wpAny _ _ (pure (some s.heap.objs.size)) _ _ _
  refine wpAny_pure ?_
  dsimp only
  refine wpAny_bind (wpAny_pure ?_)
  refine wpAny_bind (wpAny_holding (wpAny_bind (thn (he2.run pins _ σ _ _ I3 q2) fun u2 s3 ⟨y, H2, I4, ry, b, ls, ey, hb, nbp, hp2, nd2, hz2, q3⟩ => wpAny_bind (wpAny_standAt (wpAny_pure ?_)))))
  subst ey
  obtain rfl : u2 = Value.ref b := ry
  obtain ⟨zp2, hdp2, vs2, r2, ddp2⟩ := dk_of I4.hok hp2
  obtain ⟨zb, hdb, vb, rb, ddb⟩ := dk_of I4.hok hb
  have nvb : ((vs2 ++ vb).map (·.1)).Nodup := by
    have e : (vs2 ++ vb).map (·.1) = (ks ++ ls).map (·.1) := by
      rw [List.map_append, List.map_append, kv_keys r2, kv_keys rb]
    rw [e]
    exact nd2
  refine wpAny_bind (wpAny_onRaise (wpAny_tryCatch (wpAny_onRaise (wpAny_holding (wp_mergeMap (Ne.symm nbp) hdb ddp2 ddb nvb (by rw [← r2.length, ← rb.length]; exact hz2) fun h3 dd3 sb3 => ?_)))))
  have I5 : Inv X pins σ (upd H2 s.heap.objs.size (.dK (ks ++ ls))) { s3 with heap := h3, toks := s3.toks } := d_write I4 (by rw [hp2]; exact True.intro) sb3 (let ⟨q, _, _, hq, _⟩ := dd3; ⟨q, hq⟩) (dk_new (by rw [List.length_append]; exact hz2) hdp2 (kv_app r2 rb) dd3)
  refine wpAny_pure ?_
  dsimp only
  refine wpAny_pure ?_
  refine wpAny_bind ?_
  show wpAny _ _ (pure (some s.heap.objs.size)) _ _ _
  refine wpAny_pure ?_
  exact wpAny_pure ⟨.ref _, _, I5, rfl, q3⟩
end Fr

namespace Fr
open PySem PySem.Spec PyProof.Rows L2
theorem enum_newT {v : Value} {o : Obj} {G : Heap → Prop} (B : Begins v o G) :
    Meets (Builtin.«enumerate.__new__» ⟨[.type "enumerate", v], []⟩) (fun _ R s => G s.heap ∧
      R (.ok (.ret (.ref (s.heap.push o).objs.size))) { s with heap := (s.heap.push o).push { cls := .type "enumerate", data := .fields #[.none, .bool false, .ref s.heap.objs.size, rawInt 0, .none, .none] } }) :=
  .of_wp fun prog w A R s h => by
    obtain ⟨hp, g, d, tk, os⟩ := s
    obtain ⟨h1, h⟩ := h
    have hsub := sub_enumerate
    have it : ∀ {A' : Around} {E : Value → Shared → Prop} {Q : Value → Shared → Prop}, Q (.ref hp.objs.size) ⟨hp.push o, g, d, tk, os⟩ → wpAny (model prog w) A' (pyIter v) Q E ⟨hp, g, d, tk, os⟩ := fun q => B.iter prog w _ _ ⟨hp, g, d, tk, os⟩ _ h1 q
    wp_walk using it
    refine wpAny_stack_any fun st => wpAny_pure ?_
    split
    · rename_i c _ _ _ _ _
      cases (c == Value.type "enumerate") <;> (wp_walk using it; exact ⟨_, rfl, h⟩)
    · wp_walk using it
      exact ⟨_, rfl, h⟩
section
variable {prog : Program} {w : World} {A : Around} {E : Value → Shared → Prop} {s : Shared}
theorem call_enumT {v : Value} {o : Obj} {G : Heap → Prop} {Q : Value → Shared → Prop} (B : Begins v o G) (h1 : G s.heap)
    (h : ∀ h', IsEnum h' (s.heap.objs.size + 1) s.heap.objs.size 0 .none → h'.get? s.heap.objs.size = some o → (∀ b u, s.heap.get? b = some u → h'.get? b = some u) → Q (.ref (s.heap.objs.size + 1)) { s with heap := h' }) :
    wpAny (model prog w) A (call (.type "enumerate") [v]) Q E s := by
  refine callType_new PySem.F.called_enumerate (by decide) (PySem.F.typeCall_enumerate_1 _) (PySem.F.newCall_enumerate_1 _) (fun obj => PySem.F.args_object_init_2 obj _) PySem.F.entry_enumerate_new (enum_newT B) ⟨h1, ?_⟩
  have hz : (s.heap.push o).objs.size = s.heap.objs.size + 1 := Heap.size_push ..
  show _ ∧ _
  rw [hz]
  have he : IsEnum ((s.heap.push o).push { cls := .type "enumerate", data := .fields #[.none, .bool false, .ref s.heap.objs.size, rawInt 0, .none, .none] }) (s.heap.objs.size + 1) s.heap.objs.size 0 .none := by
    have z := Heap.get?_push_size (s.heap.push o) (o := { cls := .type "enumerate", data := .fields #[.none, .bool false, .ref s.heap.objs.size, rawInt 0, .none, .none] }) rfl
    rw [hz] at z
    exact z
  exact ⟨⟨_, he, rfl⟩, h _ he (Heap.get?_push_of_some _ (Heap.get?_push_size _ B.free)) fun b u e => Heap.get?_push_of_some _ (Heap.get?_push_of_some _ e)⟩
end
section
variable {prog : Program} {w : World} {A : Around} {E : Value → Shared → Prop} {s : Shared}
theorem enumT_end {e it a : Addr} {i : Nat} {items : Array Value} {old : Value} {Q : Option Value → Shared → Prop} (hh : A.in1.handled = none) (he : IsEnum s.heap e it i old) (hit : s.heap.IsTupleIter it a i) (ht : s.heap.IsTuple a items) (hne : a ≠ it) (hx : items[i]? = none)
    (hQ : ∀ h', Heap.ExtBut it s.heap h' → Q none { s with heap := h' }) : wpAny (model prog w) A (pyNext (.ref e)) Q E s := by
  have hT : s.TypeIs (.ref e) "enumerate" := ⟨_, he, rfl⟩
  unfold pyNext
  refine wpAny_bind (wpAny_attempt (wpAny_callSpecial?_slot (name := Str.ofString "__next__") hT PySem.F.slot_enumerate_next (wpAny_call_entry PySem.F.slot_enumerate_next hT PySem.F.entry_enumerate_next ?_ (PySem.F.args_enumerate_next_1 _))))
  show wpAny _ _ (field (.ref e) 2 >>= _) _ _ _
  refine wpAny_bind (wpAny_field he rfl (x := .ref it) rfl ?_)
  refine wpAny_bind (wpAny_nextOf_tuple_end hh hit ht hx fun h' x he' hx' => ?_)
  obtain ⟨o, ho, hc⟩ := hx'
  exact wpAny_bind (wpAny_isInstance (T := "StopIteration") (b := true) ⟨o, ho, hc⟩ isSubtype_stop (wpAny_pure (hQ _ he')))
end
/-- the tuple at a as it stands, each item in a new pair -/
def IteT (K : PySem.W.Frag) (a : Addr) : It :=
  ⟨fun i H => ∃ (xs : List V) (x : V), SqT K H a xs ∧ xs[i]? = some x, fun i H v H' => ∃ T x, v = .ref T ∧ H T = none ∧ H' = upd H T (.tup [.int (i : Nat), x]) ∧ ∀ xs, SqT K H a xs → xs[i]? = some x, fun i H => ∃ xs : List V, SqT K H a xs ∧ xs.length ≤ i⟩
theorem turn_enumT {P : Program} {w : World} {K : PySem.W.Frag} {elts : List Expr} {kk : Nat} {tpos : Pos} (a e it : Addr) :
    Turn P w K (.Tuple elts kk tpos) (IteT K a) [e, it] e (fun i h => (∃ old, IsEnum h e it ((i : Nat) : Int) old) ∧ h.IsTupleIter it a i ∧ e ≠ it ∧ a ≠ e ∧ a ≠ it) where
  mem := by simp
  obj := fun i h st b hb => by
    obtain ⟨⟨old, he⟩, ⟨o, ho, hc, hd⟩, _⟩ := st
    rcases (show b = e ∨ b = it by simpa using hb) with z | z <;> rw [z]
    · exact ⟨_, he, fun v q => nomatch q⟩
    · exact ⟨o, ho, fun v q => by rw [hd] at q; cases q⟩
  keep := fun i h h' st k => let ⟨⟨old, he⟩, hi, ne⟩ := st; ⟨⟨old, k e (by simp) _ he⟩, hi.at fun o q => k it (by simp) o q, ne⟩
  item := by
    intro X hP hw hK hc i pins s σ H E I hf st hg
    subst hP hw hK
    obtain ⟨⟨old, he⟩, hit, hne, hae, hai⟩ := st
    obtain ⟨xs, x, hq, hx⟩ := hg
    obtain ⟨its, rv, p, hz⟩ := I.tuple hq
    obtain ⟨u, hu, ru⟩ := rv.get hx
    have hel : e < s.heap.objs.size := Heap.lt_size he
    have hil : it < s.heap.objs.size := by
      obtain ⟨_, q, _⟩ := hit
      exact Heap.lt_size q
    have hlt : i < its.toArray.size := by
      rw [List.size_toArray]
      exact (List.getElem?_eq_some_iff.mp hu).1
    refine wpAny_pyNext_enum_itemD (Draws.tuple (show X.A.in1.handled = none from I.ok.hd hc) it a hai its.toArray) he ⟨hit, p⟩ hlt hne (by simp [hne, Ne.symm hae]) fun u' h' tk hP ho hst hT hsz hk => ?_
    obtain rfl : u' = u := by
      have z : its.toArray[i]? = some u' := hP
      rw [List.getElem?_toArray, hu] at z
      exact (Option.some.inj z).symm
    refine ⟨_, rfl, wpAny_letOwnedTupleGo_enum (s := { s with heap := h', toks := tk + 1 }) ho fun h'' he' sb => ?_⟩
    have hT2 : h''.get? s.heap.objs.size = some { cls := .type "tuple", data := .seq #[.int i tk, u'] } := (sb.2 _ (Nat.ne_of_gt hel)).trans hT
    have nw : ObjOk X.prog X.w (upd H s.heap.objs.size (.tup [.int (i : Nat), x])) h'' s.heap.objs.size (.tup [.int (i : Nat), x]) :=
      ⟨by show 2 ≤ sizeLine; decide, [.int i tk, u'], .cons ⟨_, rfl⟩ (.cons ru .nil), ⟨_, hT2, rfl, _, rfl⟩⟩
    have I1 : Inv X pins σ (upd H s.heap.objs.size (.tup [.int (i : Nat), x])) { s with heap := h'', toks := tk + 1 } :=
      I.turnedNew (ch := [e, it]) (fun b ob nb q => (sb.2 b (fun z => nb (by simp [z]))).trans (hk b ob (fun z => nb (by simp [z])) (fun z => nb (by simp [z])) q)) hf (Nat.le_refl _) nw
    refine ⟨.ref s.heap.objs.size, _, I1, rfl, ⟨_, x, rfl, I.hok.fresh (Nat.le_refl _), rfl, fun ys hy => by rw [I.tuple_inj hy hq]; exact hx⟩, ⟨⟨u', ?_⟩, hst.1.at fun o q => (sb.2 it (Ne.symm hne)).trans q, hne, hae, hai⟩, fun b hb => ?_⟩
    · rw [show ((i + 1 : Nat) : Int) = (i : Int) + 1 by omega]
      exact he'
    · have hb' : b < s.heap.objs.size := by
        rcases (show b = e ∨ b = it by simpa using hb) with z | z <;> rw [z]
        · exact hel
        · exact hil
      rw [upd_ne (Nat.ne_of_lt hb')]
      exact (hf b hb).1
  done := by
    intro X hP hw hK hc i pins s σ H E I hf st hg
    subst hP hw hK
    obtain ⟨⟨old, he⟩, hit, hne, hae, hai⟩ := st
    obtain ⟨xs, hq, hx⟩ := hg
    obtain ⟨its, rv, p, hz⟩ := I.tuple hq
    obtain ⟨f0, f1, f2, f3, f4, f5⟩ := hf it (by simp)
    have hl := rv.length
    exact enumT_end (show X.A.in1.handled = none from I.ok.hd hc) he hit p hai (by simp; omega) fun h' eb => ⟨rfl, I.turned (t' := s.toks) (fun b o hb q => eb b o hb q) f0 f1 f3 f4 f5⟩
  self := fun A i s Q E st h => let ⟨⟨_, he⟩, _⟩ := st; wpAny_pyIter_enum he h
def iEnumT (K : PySem.W.Frag) (ta : TA) : TI := fun σ H R => ta σ H fun vs H1 => ∃ a xs, vs = [.ref a] ∧ SqT K H1 a xs ∧ R (IteT K a) H1
theorem pi_enumT {X : Cx} {e : Expr} {ta : TA} {p pos tpos : Pos} {elts : List Expr} {kk : Nat} (hg : Gl X "enumerate") (hm : X.mg "enumerate" = none) (ha : PA X [e] ta) (hs : starEach [e] X.env = [(false, eval e X.env)] := by rfl) :
    PI X (.Tuple elts kk tpos) (.Call (.Name "enumerate" p) [e] [] pos) (iEnumT X.K ta) := by
  refine ⟨fun pins s σ H R I h => ?_⟩
  refine Call_ (ld_blt I hg hm boot_enumerate (PyProof.Rows.callWith_type1 (thn (ha.run pos pins s σ H _ I h) fun us s1 ⟨vs, H1, I1, r1, a, xs, ex, hq, q⟩ => ?_) hs rfl))
  subst ex
  obtain rfl := Vals.ref1 r1
  obtain ⟨its, rv, p', hz⟩ := I1.tuple hq
  have hal : a < s1.heap.objs.size := by
    obtain ⟨o, ho, _⟩ := id p'
    exact Heap.lt_size ho
  refine call_enumT (begins_tuple a its.toArray) p' fun h' he hit hk => wpAny_pyIter_enum he ?_
  have I2 : Inv X pins σ H1 { s1 with heap := h' } := I1.kept (t' := s1.toks) hk
  refine ⟨s1.heap.objs.size + 1, [s1.heap.objs.size + 1, s1.heap.objs.size], _, _, H1, rfl, I2, turn_enumT a (s1.heap.objs.size + 1) s1.heap.objs.size,
    ⟨⟨.none, he⟩, ⟨_, hit, rfl, rfl⟩, Nat.succ_ne_self _, Nat.ne_of_lt (Nat.lt_succ_of_lt hal), Nat.ne_of_lt hal⟩, fun b hb => ?_, q⟩
  have hle : s1.heap.objs.size ≤ b := by
    rcases (show b = s1.heap.objs.size + 1 ∨ b = s1.heap.objs.size by simpa using hb) with z | z <;> rw [z]
    · exact Nat.le_add_right _ _
    · exact Nat.le_refl _
  exact I1.fpOk hle (I1.hok.fresh hle)
theorem walk_enumT {K : PySem.W.Frag} {a : Addr} {xs : List V} : Walk (IteT K a) xs.length (fun H => SqT K H a xs) (YPair (fun i => some (.int (i : Nat))) (fun i => xs[i]?)) := by
  refine ⟨fun i _ hi q => ⟨xs, xs[i], q, by simp [hi]⟩, fun _ q => ⟨xs, q, Nat.le_refl _⟩, fun i H v H' _ q y => ?_⟩
  obtain ⟨T, x, y1, y2, y3, y4⟩ := y
  exact ⟨T, .int (i : Nat), x, y1, y2, y3, rfl, y4 xs q⟩
end Fr

namespace Fr
open PySem PySem.Spec PyProof.Rows L2
/-- o.f in a comprehension's block -/
theorem pe_fldK {X : Cx} {K' : PySem.W.Frag} {e : Expr} {f : Str} {pos : Pos} {ta : TE} (he : PE X e ta) (hb : attributeBase e f X.env (eval e X.env) = eval e X.env := by rfl) (hK : X.K = K' := by rfl) : PE X (.Attribute e f pos) (tFld K' ta f) := by
  subst hK
  exact pe_fld he hb
structure LenM (P : Program) (w : World) (K : PySem.W.Frag) (mg : Str → Option Value) (base : Heap) (k : Nat) (C : Addr) (sp : Sp) : Prop where
  ex : ∃ (f : Addr) (fd : FuncData) (ps : List Str), Cls K C ∧ PySem.W.findIn K (.ref C) "__len__" = some (some (.ref f)) ∧ PySem.W.isFn K (.ref f) = true ∧ FnOk P w K mg base CX0 k f fd ps sp ∧ Binds K fd ps []
def rLenOwn (C : Addr) (sp : Sp) : List V → Hp → VK → Prop := fun xs H Q => ∃ (a dx : Addr) (fs : List (Str × V)), xs = [.ref a] ∧ H a = some (.ins C dx fs) ∧ sp [.ref a] H (fun v H' => ∃ n : Nat, v = .int n ∧ n < 1000000 ∧ Q (.int n) H') C8.E0
theorem call_lenOwn {X : Cx} {k j : Nat} {C : Addr} {sp : Sp} (c : LenM X.prog X.w X.K X.mg X.base k C sp) (hr : Room j X.A) (hk : k + 1 ≤ j) : CallR X (.builtin "len") (rLenOwn C sp) := by
  intro pins s σ H xs us Q I r h
  obtain ⟨a, dx, fs, rfl, ha, h⟩ := h
  obtain ⟨u, rfl, ru⟩ := vals1 r
  obtain rfl : u = Value.ref a := ru
  obtain ⟨f, fd, ps, hc, hs, hf, F, hb⟩ := c.ex
  obtain ⟨mA, J, _⟩ := ins_get I.hok ha
  obtain ⟨od, J, _⟩ := J.look
  have sp1 : PySem.W.Looks (model X.prog X.w) s.heap (specialOf (.ref a) "__len__") (some (.ref f)) := J.type.andThen (PySem.W.looks_findIn I.kIn hs)
  refine Calls.call_function_entry kind_len plain_len entry_len (args_len1 _) ?_
  unfold Builtin.«len»
  refine wpAny_bind (m := oneArg "len" _) (wpAny_pure ?_)
  refine wpAny_bind (m := callSpecial? (.ref a) (Str.ofString "__len__")) ?_
  unfold callSpecial?
  refine wpAny_bind (sp1.here ?_)
  refine wpAny_holding (wpAny_bind ((PySem.W.bind_fn I.kIn _ (beq_iff_eq.mp hf)).here ?_))
  have hrk : Room (k + 1) X.A := hr.mono hk
  have r2 : Vals [V.ref a] [Value.ref a] := .cons rfl .nil
  have hl := F.len _ _ _ _ h
  have bt := hb s [.ref a] I.kIn (by simpa using hl)
  refine wpAny_bind (wpAny_call (codeAny_mono (F.run X.A.in1 X.stack s H ⟨[.ref a], []⟩ [.ref a] [.ref a] _ C8.E0 hrk.in1 I.env0.in1 (by simpa using bt) r2 h) fun rs s2 z => ?_))
  match rs, z with
  | .error er, z => exact pass0 (X := X) pins σ H s er s2 I z
  | .ok (.ret v), z =>
    obtain ⟨y, H', I', ry, n, rfl, hn, q⟩ := I.after z
    obtain ⟨t, rfl⟩ : ∃ t, v = Value.int n t := ry
    refine wpAny_pure ?_
    refine wpAny_bind (wpAny_holding (wpAny_pure ?_))
    refine wpAny_bind (wpAny_letGo ?_)
    show wpAny _ _ (if ((n : Nat) : Int) < 0 then _ else _) _ _ _
    rw [if_neg (by omega)]
    show wpAny _ _ (if ((n : Nat) : Int) ≥ 2 ^ 63 then _ else _) _ _ _
    rw [if_neg (by omega)]
    exact wpAny_bind (wpAny_mkInt (wpAny_pure ⟨_, rfl, .int n, H', I'.tok _, ⟨_, rfl⟩, q⟩))
  | .ok .next, z => exact z.elim
  | .ok .brk, z => exact z.elim
  | .ok .cont, z => exact z.elim
end Fr

namespace Fr
open PySem PySem.Spec PyProof.Rows L2
/-- room, and nothing under repr -/
structure RoomG (k : Nat) (A : Around) : Prop where
  room : Room k A
  free : A.guards = some []
structure FnG (P : Program) (w : World) (K : PySem.W.Frag) (mg : Str → Option Value) (base : Heap) (k : Nat) (f : Addr) (fd : FuncData) (ps : List Str) (sp : Sp) : Prop where
  len : ∀ vs H Q E, sp vs H Q E → vs.length = ps.length
  go : ∀ (A : Around) (outer : List Env) (s : Shared) (H : Hp) (args : Args) (us : List Value) (vs : List V) (Q : VK) (E : XK), RoomG k A → Env0 P w K mg base A outer s H → BindsTo s fd args (ps.zip us) → Vals vs us → sp vs H Q E → codeAny (model P w) A (.call (.ref f) args) (CR CX0 outer P w H s Q E) s
section
variable {P : Program} {w : World} {K : PySem.W.Frag} {mg : Str → Option Value} {base : Heap}
/-- a def by its body -/
theorem fnG_of {k : Nat} {f : Addr} {x qual : Str} {pa : Arguments} {body : List Stmt} {sc : Scope} {dV kV doc pm cd ct oc : Value} {an od : Option Addr} {osl : Array (Option Value)} {N ps : List Str} {sp : Sp}
    (lk : K.lookup f = some ⟨oc, od, .func (PySem.W.fnOf x qual pa body sc dV kV doc pm an cd ct), osl⟩) (hcd : PySem.W.codeIn K cd qual = true) (S : FnScope N ps sc) (len : ∀ vs H Q E, sp vs H Q E → vs.length = ps.length)
    (hb : ∀ (A : Around) (outer : List Env) (s : Shared) (H : Hp) (vs : List V) (Q : VK) (E : XK), RoomG k (A.deeper (envOfC qual sc s.heap.objs.size f cd)) → sp vs H Q E → ∃ t, PSs (cxOf CX0 P w K mg base N qual sc f cd A outer s H E) body t ∧ t { nx := fun _ H' => Q .non H', rt := Q } (start N vs) H) :
    FnG P w K mg base (k + 1) f (PySem.W.fnOf x qual pa body sc dV kV doc pm an cd ct) ps sp where
  len := len
  go A outer s H args us vs Q E hr e0 bt rv hq := by
    have h1 : vs.length = ps.length := len _ _ _ _ hq
    have inK : K.In s.heap := e0.mod.kin.keeps fun b o z => (e0.bs b o z).1
    have noL : s.heap.NoLimit := e0.mod.nolimit.keeps fun b o z => (e0.bs b o z).1
    have kinds : ∀ y ∈ ps.zip us, sc.names.lookup y.1 = some .local ∨ (sc.names.lookup y.1 = some .cell ∧ ((cellsFrom (s.heap.objs.size + 1) sc.names []).lookup y.1).isSome = true) := by
      intro y hy
      obtain ⟨n, v⟩ := y
      cases S.par n (List.of_mem_zip hy).1 with
      | inl z => exact Or.inl z
      | inr z => exact Or.inr ⟨z, PySem.W.cellsFrom_some _ _ _ (Or.inl z)⟩
    refine codeAny_call_function hr.room.depth (inK _ _ lk) rfl S.co S.gen rfl (PySem.W.codeRec_of inK hcd) (bt _ _ _ _ (wpAny_newFunctionEnv_cells S.kind kinds ?_))
    rintro _ rfl s1 ic
    refine ⟨noL.keeps ic.toInCall.keep, codeAny_func ?_⟩
    obtain ⟨t, pt, ht⟩ := hb A outer s H vs Q E ⟨hr.room.deeper _, hr.free⟩ hq
    have I0 := inv_start (CX := CX0) (E := E) S hr.room.hd e0 h1 rv ic
    refine wpAny_mono (pt.run [] s1 (start N vs) H _ I0 ht) (fun fl s2 z => ?_) fun _ _ z => z
    cases fl with
    | next =>
      obtain ⟨_, H2, J, q⟩ := z
      exact ⟨V.non, H2, J.os, J.bare, J.base, J.hok, rfl, q⟩
    | ret u =>
      obtain ⟨v, _, H2, J, ru, q⟩ := z
      exact ⟨v, H2, J.os, J.bare, J.base, J.hok, ru, q⟩
    | brk => exact z.elim fun _ z => z.elim fun _ z => z.2.elim
    | cont => exact z.elim fun _ z => z.elim fun _ z => z.2.elim
theorem Fun_okG {x qual : Str} {st : Stmt} {f : Addr} {fd : FuncData} {N ps : List Str} {k : Nat} {sp : Sp} (F : Fun K x qual st f fd) (S : FnScope N ps (defScope st)) (len : ∀ vs H Q E, sp vs H Q E → vs.length = ps.length)
    (hb : ∀ (cd : Value) (A : Around) (outer : List Env) (s : Shared) (H : Hp) (vs : List V) (Q : VK) (E : XK), RoomG k (A.deeper (envOfC qual (defScope st) s.heap.objs.size f cd)) → sp vs H Q E →
      ∃ t, PSs (cxOf CX0 P w K mg base N qual (defScope st) f cd A outer s H E).nox (defBody st) t ∧ t { nx := fun _ H' => Q .non H', rt := Q } (start N vs) H) : FnG P w K mg base (k + 1) f fd ps sp := by
  obtain ⟨oc, od, kV, doc, pm, an, cd, ct, osl, rfl, lk, hcd⟩ := F.ex
  refine fnG_of lk hcd S len fun A outer s H vs Q E hr hq => ?_
  obtain ⟨t, pt, ht⟩ := hb cd A outer s H vs Q E hr hq
  exact ⟨t, pt.nox, ht⟩
/-- a def of this kind that may be called by its name -/
structure CalG (P : Program) (w : World) (K : PySem.W.Frag) (mg : Str → Option Value) (base : Heap) (k : Nat) (x : Str) (sp : Sp) : Prop where
  ex : ∃ (f : Addr) (fd : FuncData) (ps : List Str), FnG P w K mg base k f fd ps sp ∧ mg x = some (.ref f) ∧ PySem.W.keepIn K (.ref f) = true ∧ Binds K fd ps []
end
section
variable {X : Cx} {k j : Nat} {x : Str} {sp : Sp} {p pos : Pos} {e : Expr} {es : List Expr} {t : TA}
theorem pe_cG (c : CalG X.prog X.w X.K X.mg X.base k x sp) (hr : RoomG j X.A) (hk : k ≤ j) (hg : Gl X x) (ha : PA X (e :: es) t) (hdb : (x == ("__debug__" : Str)) = false := by decide)
    (he : starEach (e :: es) X.env = (false, eval e X.env) :: starEach es X.env := by rfl) (hpl : (backTo pos (starEach es X.env)).any (·.1) = false := by rfl) : PE X (.Call (.Name x p) (e :: es) [] pos) (tCall sp [] C8.E0 t) := by
  obtain ⟨f, fd, ps, F, hm, kp, hb⟩ := c.ex
  constructor
  intro pins s σ H Q I h
  refine wpAny_Call_Name_kw (ld_glob I hg hm (PySem.W.callWith_K (h₀ := X.base) I.ok.mod.kin kp (thn (ha.run pos pins s σ H _ I h) ?_) he hpl) hdb)
  rintro us s1 ⟨vs, H1, I1, r, q⟩
  refine ⟨I1.kIn, wpAny_call ?_⟩
  have r2 : Vals (vs ++ []) (us ++ []) := r.append .nil
  have hl : (us ++ ([] : List Value)).length = ps.length := r2.length.symm.trans (F.len _ _ _ _ q)
  refine codeAny_mono (F.go X.A X.stack s1 H1 ⟨us, []⟩ (us ++ []) (vs ++ []) Q C8.E0 ⟨hr.room.mono hk, hr.free⟩ I1.env0 (hb s1 us I1.kIn hl) r2 q) fun rs s2 z => ?_
  match rs, z with
  | .error er, z => exact pass0 (X := X) pins σ H1 s1 er s2 I1 z
  | .ok (.ret u), z => exact I1.after z
  | .ok .next, z => exact z.elim
  | .ok .brk, z => exact z.elim
  | .ok .cont, z => exact z.elim
/-- repr(e), e plain data -/
def rReprD (K : PySem.W.Frag) : List V → Hp → VK → Prop := fun xs H Q => ∃ (v : V) (d : PyData), xs = [v] ∧ Dp K H v d ∧ d.canLay0 = true ∧ d.showable = true ∧ d.depth ≤ 60 ∧ ((∃ i, d = .int i) ∨ d.shown.length ≤ sizeLine) ∧ Q (.str d.shown) H
theorem call_reprD (hg : X.A.guards = some []) (hu : X.A.units + 65 < cLine) : CallR X (.builtin "repr") (rReprD X.K) := by
  intro pins s σ H xs us Q I r h
  obtain ⟨v, d, rfl, hd, hc, hs, h6, hz, q⟩ := h
  obtain ⟨u, rfl, ru⟩ := vals1 r
  obtain ⟨as, rd⟩ := Dp.reads I d v u hd ru
  cases hd with
  | non =>
    cases (show u = Value.none from ru)
    simp only [PyData.shown] at q hz
    exact P.repr_of_none ⟨.str _, H, I.tok _, ⟨_, rfl⟩, q⟩
  | bl b =>
    cases (show u = Value.bool b from ru)
    simp only [PyData.shown] at q hz
    refine P.repr_of_bool ⟨.str _, H, I.tok _, ⟨_, rfl⟩, ?_⟩
    cases b <;> exact q
  | int i =>
    obtain ⟨t, rfl⟩ := (show ∃ t, u = Value.int i t from ru)
    simp only [PyData.shown] at q hz
    simp only [PyData.showable] at hs
    exact P.repr_of_int (of_decide_eq_true hs) ⟨.str _, H, I.tok _, ⟨_, rfl⟩, q⟩
  | str y =>
    obtain ⟨t, rfl⟩ := (show ∃ t, u = Value.str y t from ru)
    simp only [PyData.shown] at q hz
    exact P.repr_of_str ⟨.str _, H, I.tok _, ⟨_, rfl⟩, q⟩ (hz.resolve_left fun ⟨_, z⟩ => by cases z)
  | lst hq ha =>
    cases (show u = Value.ref _ from ru)
    exact repr_of_reads' rd hs (PyData.noDict_hsm (PyData.hasDict_of_canLay _ hc)) hg (by omega) (fun _ _ z => z) (fun h' t tk k => ⟨.str _, H, I.kept k, ⟨_, rfl⟩, q⟩) (hz.resolve_left fun ⟨_, z⟩ => by cases z)
  | tup hq ha =>
    cases (show u = Value.ref _ from ru)
    exact repr_of_reads' rd hs (PyData.noDict_hsm (PyData.hasDict_of_canLay _ hc)) hg (by omega) (fun _ _ z => z) (fun h' t tk k => ⟨.str _, H, I.kept k, ⟨_, rfl⟩, q⟩) (hz.resolve_left fun ⟨_, z⟩ => by cases z)
end
end Fr

namespace Fr
open PySem PySem.Spec PyProof.Rows L2
structure Shw (d : PyData) (k w : Nat) : Prop where
  lay : d.canLay0 = true
  sho : d.showable = true
  dep : d.depth ≤ k
  int : d.intsShort 13 = true
  wt : d.weight ≤ w
structure ShwA (ds : List PyData) (k w : Nat) : Prop where
  lay : PyData.canLayAll0 ds = true
  sho : PyData.showableAll ds = true
  dep : PyData.depthAll ds ≤ k
  int : PyData.intsShortAll 13 ds = true
  wt : PyData.weightAll ds ≤ w
theorem ShwA.nil {k : Nat} : ShwA [] k 0 := ⟨by simp [PyData.canLayAll0], by simp [PyData.showableAll], by simp [PyData.depthAll], by simp [PyData.intsShortAll], by simp [PyData.weightAll]⟩
theorem ShwA.cons {d : PyData} {ds : List PyData} {k w v u : Nat} (h : Shw d k w) (t : ShwA ds k v) (e : w + 1 + v ≤ u) : ShwA (d :: ds) k u :=
  ⟨by simp [PyData.canLayAll0, h.lay, t.lay], by simp [PyData.showableAll, h.sho, t.sho], by simp only [PyData.depthAll]; have := h.dep; have := t.dep; omega, by simp [PyData.intsShortAll, h.int, t.int],
    by simp only [PyData.weightAll]; have := h.wt; have := t.wt; omega⟩
theorem ShwA.c {d : PyData} {ds : List PyData} {k w v : Nat} (h : Shw d k w) (t : ShwA ds k v) : ShwA (d :: ds) k (w + 1 + v) := .cons h t (Nat.le_refl _)
theorem Shw.list {ds : List PyData} {k w : Nat} (h : ShwA ds k w) : Shw (.list ds) (k + 1) w :=
  ⟨by simp [PyData.canLay0, h.lay], by simp [PyData.showable, h.sho], by simp only [PyData.depth]; have := h.dep; omega, by simp [PyData.intsShort, h.int], by simp only [PyData.weight]; exact h.wt⟩
theorem Shw.tup {ds : List PyData} {k w : Nat} (h : ShwA ds k w) : Shw (.tuple ds) (k + 1) w :=
  ⟨by simp [PyData.canLay0, h.lay], by simp [PyData.showable, h.sho], by simp only [PyData.depth]; have := h.dep; omega, by simp [PyData.intsShort, h.int], by simp only [PyData.weight]; exact h.wt⟩
theorem Shw.one {i : Int} {k : Nat} (h : i.natAbs < 10 ^ 12) : Shw (.int i) k 40 := by
  have z := PyData.intsShortAll_ints [i] (by intro n hn; rw [List.mem_singleton.mp hn]; exact h)
  have hl : i.natAbs.log2 < 40 := by
    by_cases h0 : i.natAbs = 0
    · rw [h0]; decide
    · exact (Nat.log2_lt h0).mpr (Nat.lt_trans h (by decide))
  refine ⟨by simp [PyData.canLay0], by simp only [PyData.showable]; exact decide_eq_true (by omega), by simp [PyData.depth], ?_, ?_⟩
  · simp only [List.map_cons, List.map_nil, PyData.intsShortAll, Bool.and_eq_true] at z
    exact z.1
  · simp only [PyData.weight]
    split <;> omega
theorem Shw.str {x : Str} {k w : Nat} (h : PyData.strOk x = true) (e : x.length ≤ w) : Shw (.str x) k w :=
  ⟨by simpa [PyData.canLay0] using h, by simp [PyData.showable], by simp [PyData.depth], by simp [PyData.intsShort], by simp only [PyData.weight]; exact e⟩
theorem ShwA.map {α : Type} {f : α → PyData} {k w : Nat} : ∀ {xs : List α}, (∀ x ∈ xs, Shw (f x) k w) → ShwA (xs.map f) k (xs.length * (w + 1))
  | [], _ => by simpa using ShwA.nil
  | x :: xs, h => .cons (h x List.mem_cons_self) (ShwA.map fun y hy => h y (List.mem_cons_of_mem _ hy)) (by rw [List.length_cons, Nat.succ_mul]; omega)
theorem Shw.mono {d : PyData} {k w j v : Nat} (h : Shw d k w) (e : k ≤ j) (f : w ≤ v) : Shw d j v := ⟨h.lay, h.sho, Nat.le_trans h.dep e, h.int, Nat.le_trans h.wt f⟩
theorem ShwA.mono {d : List PyData} {k w j v : Nat} (h : ShwA d k w) (e : k ≤ j) (f : w ≤ v) : ShwA d j v := ⟨h.lay, h.sho, Nat.le_trans h.dep e, h.int, Nat.le_trans h.wt f⟩
/-- what repr asks -/
theorem Shw.asks {d : PyData} {k w : Nat} (h : Shw d k w) (e : k ≤ 60) (f : w ≤ 1000000) : d.canLay0 = true ∧ d.showable = true ∧ d.depth ≤ 60 ∧ ((∃ i, d = .int i) ∨ d.shown.length ≤ sizeLine) :=
  ⟨h.lay, h.sho, Nat.le_trans h.dep e, .inr (PyData.shown_fits (by decide) (by decide) (PyData.leavesShort_of_canLay0 13 d h.lay h.int) (Nat.le_trans h.wt (Nat.le_trans f (by decide))))⟩
theorem Shw.shaped {d : PyData} {k w : Nat} (h : Shw d k w) (e : k ≤ 60) : SeqAt.shaped d = true := by
  unfold SeqAt.shaped
  rw [h.lay, decide_eq_true (Nat.le_trans h.dep (Nat.le_trans e (by decide)))]
  rfl
end Fr

namespace Fr
open PySem PySem.Spec PyProof.Rows L2
def In2 (J1 : It) (g1 : TG) (tt1 : TT) (te : TE) (vs1 : List Nat) (D : Addr) (σ2 : L2.St) (H4 : Hp) (Nx : Hp → Prop) : Prop := ∃ W1 : Nat → Nat → Hp → Prop, (∃ m, W1 0 m H4) ∧ ∀ j k H, W1 j k H →
  (J1.stop j H ∧ Nx H) ∨ (J1.go j H ∧ ∃ Nx1 : Hp → Prop, (∀ H', Nx1 H' → ∃ k', k' < k ∧ W1 (j + 1) k' H') ∧ ∀ x H', J1.yld j H x H' → g1 x (wipe σ2 vs1) H' fun σ3 H5 => wipe σ3 vs1 = wipe σ2 vs1 ∧ tt1 σ3 H5 fun b H6 =>
    if b = true then te σ3 H6 fun y H7 => ∃ acc, H7 D = some (.lst acc) ∧ acc.length < sizeLine ∧ Nx1 (upd H7 D (.lst (acc ++ [y]))) else Nx1 H6)
theorem in2_mono {J1 : It} {g1 : TG} {tt1 : TT} {te : TE} {vs1 : List Nat} {D : Addr} {σ2 : L2.St} {H4 : Hp} {Nx Nx' : Hp → Prop} (h : In2 J1 g1 tt1 te vs1 D σ2 H4 Nx) (e : ∀ H, Nx H → Nx' H) : In2 J1 g1 tt1 te vs1 D σ2 H4 Nx' := by
  obtain ⟨W1, w0, st⟩ := h
  refine ⟨W1, w0, fun j k H w => ?_⟩
  rcases st j k H w with ⟨a, b⟩ | ⟨a, Nx1, b, c⟩
  · exact .inl ⟨a, e H b⟩
  · exact .inr ⟨a, Nx1, b, c⟩
theorem lc2_it {J : It} {n : Nat} {G : Hp → Prop} {Y : Nat → Hp → V → Hp → Prop} (w : Walk J n G Y) {g g1 : TG} {tt tt1 : TT} {wi1 : TI} {te : TE} {vs vs1 : List Nat} {σ : L2.St} {H1 : Hp} {D : Addr} {Qd : Hp → Prop} (Pv : Nat → Hp → Prop) (h0 : Pv 0 (upd H1 D (.lst []))) (hG : ∀ i H, i ≤ n → Pv i H → G H)
    (hs : ∀ i x H H', i < n → Pv i H → Y i H x H' → ∀ Nx : Hp → Prop, (∀ H, Pv (i + 1) H → Nx H) → g x (wipe σ vs) H' fun σ2 H2 => wipe σ2 vs = wipe σ vs ∧ tt σ2 H2 fun b H3 =>
      if b = true then wi1 σ2 H3 fun J1 H4 => In2 J1 g1 tt1 te vs1 D σ2 H4 Nx else Nx H3) (hd : ∀ H, Pv n H → Qd H) :
    ∃ W : Nat → Nat → Hp → Prop, (∃ m, W 0 m (upd H1 D (.lst []))) ∧ ∀ i m H, W i m H →
      (J.stop i H ∧ Qd H) ∨ (J.go i H ∧ ∃ Nx : Hp → Prop, (∀ H', Nx H' → ∃ m', m' < m ∧ W (i + 1) m' H') ∧ ∀ x H', J.yld i H x H' → g x (wipe σ vs) H' fun σ2 H2 => wipe σ2 vs = wipe σ vs ∧ tt σ2 H2 fun b H3 =>
        if b = true then wi1 σ2 H3 fun J1 H4 => In2 J1 g1 tt1 te vs1 D σ2 H4 Nx else Nx H3) := by
  refine ⟨fun i m H => m = n - i ∧ i ≤ n ∧ Pv i H, ⟨n, by simp, Nat.zero_le _, h0⟩, ?_⟩
  rintro i m H ⟨rfl, hi, p⟩
  have q := hG i H hi p
  by_cases hlt : i < n
  · exact .inr ⟨w.goes i H hlt q, Pv (i + 1), fun H' p' => ⟨n - (i + 1), by omega, rfl, hlt, p'⟩, fun x H' y => hs i x H H' hlt p (w.yields i H x H' hlt q y) _ fun _ h => h⟩
  · have e : i = n := by omega
    subst e
    exact .inl ⟨w.stops H q, hd H p⟩
theorem in2_it {J1 : It} {n : Nat} {G : Hp → Prop} {Y : Nat → Hp → V → Hp → Prop} (w : Walk J1 n G Y) {g1 : TG} {tt1 : TT} {te : TE} {vs1 : List Nat} {D : Addr} {σ2 : L2.St} {H4 : Hp} {Nx : Hp → Prop} (Pv : Nat → Hp → Prop) (h0 : Pv 0 H4) (hG : ∀ i H, i ≤ n → Pv i H → G H)
    (hs : ∀ i x H H', i < n → Pv i H → Y i H x H' → g1 x (wipe σ2 vs1) H' fun σ3 H5 => wipe σ3 vs1 = wipe σ2 vs1 ∧ tt1 σ3 H5 fun b H6 =>
      if b = true then te σ3 H6 fun y H7 => ∃ acc, H7 D = some (.lst acc) ∧ acc.length < sizeLine ∧ Pv (i + 1) (upd H7 D (.lst (acc ++ [y]))) else Pv (i + 1) H6) (hd : ∀ H, Pv n H → Nx H) : In2 J1 g1 tt1 te vs1 D σ2 H4 Nx := by
  refine ⟨fun i m H => m = n - i ∧ i ≤ n ∧ Pv i H, ⟨n, by simp, Nat.zero_le _, h0⟩, ?_⟩
  rintro i m H ⟨rfl, hi, p⟩
  have q := hG i H hi p
  by_cases hlt : i < n
  · exact .inr ⟨w.goes i H hlt q, Pv (i + 1), fun H' p' => ⟨n - (i + 1), by omega, rfl, hlt, p'⟩, fun x H' y => hs i x H H' hlt p (w.yields i H x H' hlt q y)⟩
  · have e : i = n := by omega
    subst e
    exact .inl ⟨w.stops H q, hd H p⟩
theorem unlock {H H' : Hp} {t : Addr} {od : PySem.Obj} {u : HO} (h : H t = some u) (s : Same (upd H t (.frz od u)) H') : Same H (upd H' t u) := fun b o e => by
  by_cases hb : b = t
  · rw [hb, upd_same]
    rw [hb, h] at e
    exact e
  · rw [upd_ne hb]
    exact s b o (by rw [upd_ne hb]; exact e)
theorem st_unlock {B H' : Hp} {t : Addr} {u v : HO} (s : Same B H') (h : B t = some u) (n : tupo u = false) : ST B (upd H' t v) := fun b o e d => by
  have hb : b ≠ t := fun z => by
    rw [z, h] at e
    cases e
    rw [n] at d
    cases d
  rw [upd_ne hb]
  exact s b o e
def nrD (x : Str × Nat) : PyData := .tuple [.str x.1, .int (x.2 : Nat)]
def nam1 (t : Tb) : List (Str × Nat) := (List.range t.rs.length).map fun i => (t.n, i)
def named (ts : List Tb) : List (Str × Nat) := ts.flatMap nam1
theorem named_take {ts : List Tb} {i : Nat} {t : Tb} (h : ts[i]? = some t) : named (ts.take (i + 1)) = named (ts.take i) ++ nam1 t := by
  unfold named
  rw [List.take_add_one, h, List.flatMap_append]
  simp
theorem named_len (ts : List Tb) : (named ts).length = (ts.map fun t => t.rs.length).sum := by
  unfold named
  rw [List.length_flatMap]
  congr 1
  refine List.map_congr_left fun t _ => ?_
  unfold nam1
  rw [List.length_map, List.length_range]
theorem mem_named {ts : List Tb} {x : Str} {i : Nat} : (x, i) ∈ named ts ↔ ∃ t ∈ ts, t.n = x ∧ i < t.rs.length := by
  unfold named nam1
  rw [List.mem_flatMap]
  constructor
  · rintro ⟨t, ht, h⟩
    obtain ⟨j, hj, e⟩ := List.mem_map.mp h
    cases e
    exact ⟨t, ht, rfl, List.mem_range.mp hj⟩
  · rintro ⟨t, ht, rfl, h⟩
    exact ⟨t, ht, List.mem_map.mpr ⟨i, List.mem_range.mpr h, rfl⟩⟩
theorem noL_nr (x : Str × Nat) : noL (nrD x) = true := rfl
theorem noL_tb_k (t : Tb) : noL t.k = true := noL_k t
theorem LD.ext {K : PySem.W.Frag} {H H' : Hp} {l : Addr} {ds : List PyData} (h : LD K H l ds) (e : LamX.ExtN H H') : LD K H' l ds := by
  obtain ⟨xs, h1, h2⟩ := h
  exact ⟨xs, e _ _ h1 (fun ps z => by cases z), dpsd (SD.ext e) _ _ h2⟩
theorem LD.st {K : PySem.W.Frag} {H H' : Hp} {l : Addr} {ds : List PyData} (h : LD K H l ds) (e : ST H H') (n : noLs ds = true) (f : H' l = H l) : LD K H' l ds := by
  obtain ⟨xs, h1, h2⟩ := h
  exact ⟨xs, by rw [f, h1], dpst e _ _ n h2⟩
theorem name_ok {x : Str} (h : isName x = true) : PyData.strOk x = true ∧ x.length ≤ 8 := by
  unfold isName at h
  rw [Bool.and_eq_true, Bool.and_eq_true] at h
  refine ⟨?_, by have := of_decide_eq_true h.1.2; omega⟩
  unfold PyData.strOk
  rw [Array.all_eq_true_iff_forall_mem]
  intro c hc
  have z := List.all_eq_true.mp h.2 c (Array.mem_toList_iff.mpr hc)
  unfold okSign at z
  rw [Bool.and_eq_true] at z
  have z2 : ¬ ([122] < [c]) := by simpa using z.2
  have : ¬ (122 < c) := fun q => z2 (by rw [List.cons_lt_cons_iff]; exact Or.inl q)
  exact decide_eq_true (by omega)
structure Lay (d : PyData) (k : Nat) : Prop where
  lay : d.canLay0 = true
  dep : d.depth ≤ k
structure LayA (ds : List PyData) (k : Nat) : Prop where
  lay : PyData.canLayAll0 ds = true
  dep : PyData.depthAll ds ≤ k
theorem LayA.nil {k : Nat} : LayA [] k := ⟨by simp [PyData.canLayAll0], by simp [PyData.depthAll]⟩
theorem LayA.cons {d : PyData} {ds : List PyData} {k : Nat} (h : Lay d k) (t : LayA ds k) : LayA (d :: ds) k := ⟨by simp [PyData.canLayAll0, h.lay, t.lay], by simp only [PyData.depthAll]; have := h.dep; have := t.dep; omega⟩
theorem LayA.map {α : Type} {f : α → PyData} {k : Nat} : ∀ {xs : List α}, (∀ x ∈ xs, Lay (f x) k) → LayA (xs.map f) k
  | [], _ => .nil
  | x :: xs, h => .cons (h x List.mem_cons_self) (LayA.map fun y hy => h y (List.mem_cons_of_mem _ hy))
theorem Lay.int {i : Int} {k : Nat} : Lay (.int i) k := ⟨by simp [PyData.canLay0], by simp [PyData.depth]⟩
theorem Lay.str {x : Str} {k : Nat} (h : PyData.strOk x = true) : Lay (.str x) k := ⟨by simpa [PyData.canLay0] using h, by simp [PyData.depth]⟩
theorem Lay.list {ds : List PyData} {k : Nat} (h : LayA ds k) : Lay (.list ds) (k + 1) := ⟨by simp [PyData.canLay0, h.lay], by simp only [PyData.depth]; have := h.dep; omega⟩
theorem Lay.tup {ds : List PyData} {k : Nat} (h : LayA ds k) : Lay (.tuple ds) (k + 1) := ⟨by simp [PyData.canLay0, h.lay], by simp only [PyData.depth]; have := h.dep; omega⟩
theorem Lay.shaped {d : PyData} {k : Nat} (h : Lay d k) (e : k ≤ 60) : SeqAt.shaped d = true := by
  unfold SeqAt.shaped
  rw [h.lay, decide_eq_true (Nat.le_trans h.dep (Nat.le_trans e (by decide)))]
  rfl
theorem lay_rd {d : Int} {r : Rd1} (h : isRead d r = true) : Lay r.d 2 := by
  unfold isRead at h
  rw [Bool.and_eq_true] at h
  exact .tup (.cons (.str (name_ok h.1).1) (.cons (.tup (.map fun _ _ => .int)) (.cons .int .nil)))
theorem lay_k {d : Int} {ts : List Tb} (O : OkT d ts) {t : Tb} (h : t ∈ ts) : Lay t.k 4 := .tup (.cons .int (.cons (.tup (.map fun r hr => lay_rd (O.reads t h r hr))) .nil))
theorem lay_tb {d : Int} {ts : List Tb} (O : OkT d ts) {t : Tb} (h : t ∈ ts) : Lay t.d 4 := .tup (.cons (.str (name_ok (O.names t h)).1) (.cons .int (.cons (.list (.map fun r hr => lay_rd (O.reads t h r hr))) .nil)))
theorem lay_nr {x : Str × Nat} (h : isName x.1 = true) : Lay (nrD x) 1 := .tup (.cons (.str (name_ok h).1) (.cons .int .nil))
theorem lay_named {d : Int} {ts : List Tb} (O : OkT d ts) {x : Str × Nat} (h : x ∈ named ts) : Lay (nrD x) 1 := by
  obtain ⟨t, ht, e, _⟩ := mem_named.mp (show (x.1, x.2) ∈ named ts from h)
  exact lay_nr (by rw [← e]; exact O.names t ht)
theorem eqv_nr (a b : Str × Nat) : PyData.eqv (nrD a) (nrD b) = decide (a = b) := by
  obtain ⟨x, i⟩ := a
  obtain ⟨y, j⟩ := b
  unfold nrD
  simp only [PyData.eqv, PyData.eqvAll, Bool.and_true]
  by_cases h1 : x = y
  · by_cases h2 : i = j
    · subst h1 h2
      simp
    · have : ¬ ((i : Int) = (j : Int)) := by omega
      simp [h2, this]
  · simp [h1]
theorem KvAt.ext {K : PySem.W.Frag} {H H' : Hp} (e : LamX.ExtN H H') {kvs : List (Key × V)} {ts : List Tb} (h : KvAt K H kvs ts) : KvAt K H' kvs ts := h.monoD (SD.ext e)
theorem SysAt.ext {K : PySem.W.Frag} {C : Addr} {H H' : Hp} {s : Addr} {d m : Int} {ts : List Tb} (e : LamX.ExtN H H') (h : SysAt K C H s d m ts) : SysAt K C H' s d m ts := by
  obtain ⟨dx, t, kvs, h1, h2, h3⟩ := h.ob
  exact ⟨dx, t, kvs, e _ _ h1 (fun ps z => by cases z), e _ _ h2 (fun ps z => by cases z), h3.ext e⟩
def tabEq (ts us : List Tb) : Bool := ts.length == us.length && ts.all fun t => match us.find? (fun u => decide (u.n = t.n)) with
  | none => false
  | some u => PyData.eqv t.k u.k
theorem kvEq_of {K : PySem.W.Frag} {H : Hp} {ls : List (Key × V)} {us : List Tb} (hl : KvAt K H ls us) (su : ∀ u ∈ us, SeqAt.shaped u.k = true) : ∀ {ks : List (Key × V)} {ts : List Tb}, KvAt K H ks ts → (∀ t ∈ ts, SeqAt.shaped t.k = true) →
    KvEq K H ls ks (ts.all fun t => match us.find? (fun u => decide (u.n = t.n)) with
      | none => false
      | some u => PyData.eqv t.k u.k)
  | [], _, h, _ => by
    cases h
    exact .nil
  | (k, v) :: ks, _, h, st => by
    cases h with
    | @cons _ t _ ts h1 h2 =>
      obtain ⟨e1, e2⟩ := h1
      have e1 : k = Sum.inr t.n := e1
      subst e1
      have ih := kvEq_of hl su h2 fun t ht => st t (List.mem_cons_of_mem _ ht)
      rw [List.all_cons]
      cases hf : us.find? (fun u => decide (u.n = t.n)) with
      | none =>
        refine .miss (hl.noVal fun hm => ?_)
        obtain ⟨u, hu, e⟩ := List.mem_map.mp hm
        have z := List.find?_eq_none.mp hf u hu
        exact z (decide_eq_true e)
      | some u =>
        obtain ⟨y, y1, y2⟩ := hl.get hf
        exact .hit y1 e2 y2 (st t List.mem_cons_self) (su u (List.mem_of_find?_eq_some hf)) ih
theorem find_nodup' {ts : List Tb} (hn : (ts.map (·.n)).Nodup) {t : Tb} (h : t ∈ ts) : ts.find? (fun u => decide (u.n = t.n)) = some t := find_nodup hn h rfl
theorem tabEq_refl {ts : List Tb} (hn : (ts.map (·.n)).Nodup) (st : ∀ t ∈ ts, SeqAt.shaped t.k = true) : tabEq ts ts = true := by
  unfold tabEq
  rw [Bool.and_eq_true]
  refine ⟨by simp, List.all_eq_true.mpr fun t ht => ?_⟩
  rw [find_nodup' hn ht]
  exact SeqAt.eqv_refl _ (SeqAt.canLay_of_shaped (st t ht))
end Fr

namespace Fr
open PySem PySem.Spec PyProof.Rows L2
theorem ltCps_iff : ∀ a b : List Nat, ltCps a b = true ↔ a < b
  | [], [] => by simp [ltCps]
  | [], b :: t => by simp [ltCps]
  | a :: r, [] => by simp [ltCps]
  | a :: r, b :: t => by
    rw [List.cons_lt_cons_iff, ← ltCps_iff r t]
    simp [ltCps]
theorem rising_pw : ∀ (l : List Str) (p : Str), risingS p l = true → (p :: l).Pairwise fun a b => a.cps.toList ≤ b.cps.toList
  | [], p, _ => by simp
  | x :: r, p, h => by
    unfold risingS at h
    rw [Bool.and_eq_true] at h
    have ih := rising_pw r x h.2
    have hx : p.cps.toList ≤ x.cps.toList := fun z => by
      have := (ltCps_iff x.cps.toList p.cps.toList).mpr z
      rw [this] at h
      exact Bool.noConfusion h.1
    rw [List.pairwise_cons]
    refine ⟨fun y hy => ?_, ih⟩
    rcases List.mem_cons.mp hy with rfl | hy
    · exact hx
    · exact List.le_trans hx ((List.pairwise_cons.mp ih).1 y hy)
theorem sorted_pw {l : List Str} (h : sortedS l = true) : l.Pairwise fun a b => a.cps.toList ≤ b.cps.toList := by
  cases l with
  | nil => exact .nil
  | cons x r => exact rising_pw r x h
theorem str_antisymm {a b : Str} (h : a.cps.toList ≤ b.cps.toList) (k : b.cps.toList ≤ a.cps.toList) : a = b := by
  have e := List.le_antisymm h k
  obtain ⟨a⟩ := a
  obtain ⟨b⟩ := b
  have e : a.toList = b.toList := e
  rw [Array.toList_inj.mp e]
theorem srt_pw (ts : List Tb) : ((srt ts).map (·.n)).Pairwise fun a b => a.cps.toList ≤ b.cps.toList := by
  rw [List.pairwise_map]
  have h := List.pairwise_mergeSort (le := leK Tb.n) (fun a b c h1 h2 => decide_eq_true (List.le_trans (of_decide_eq_true h1) (of_decide_eq_true h2))) (fun a b => by
    unfold leK
    rw [Bool.or_eq_true, decide_eq_true_eq, decide_eq_true_eq]
    exact List.le_total _ _) ts
  exact h.imp fun h => of_decide_eq_true h
theorem srt_perm (ts : List Tb) : (srt ts).Perm ts := List.mergeSort_perm ts (leK Tb.n)
theorem sorted_names {ys : List Str} {ts : List Tb} (p : ys.Perm (ts.map (·.n))) (h : sortedS ys = true) : ys = (srt ts).map (·.n) :=
  List.Perm.eq_of_pairwise (fun _ _ _ _ h k => str_antisymm h k) (sorted_pw h) (srt_pw ts) (p.trans ((srt_perm ts).map (·.n)).symm)
/-- one order alone -/
theorem srt_same {ts us : List Tb} (p : ts.Perm us) (n : (ts.map (·.n)).Nodup) : srt ts = srt us := by
  have e : (srt ts).map (·.n) = (srt us).map (·.n) := List.Perm.eq_of_pairwise (fun _ _ _ _ h k => str_antisymm h k) (srt_pw ts) (srt_pw us) ((((srt_perm ts).trans p).trans (srt_perm us).symm).map (·.n))
  have hp : (srt ts).Perm (srt us) := ((srt_perm ts).trans p).trans (srt_perm us).symm
  have hl : (srt ts).length = (srt us).length := hp.length_eq
  refine List.ext_getElem? fun i => ?_
  cases h : (srt ts)[i]? with
  | none =>
    rw [List.getElem?_eq_none_iff] at h
    rw [List.getElem?_eq_none (by omega)]
  | some t =>
    have hi : i < (srt us).length := by
      have := (List.getElem?_eq_some_iff.mp h).1
      omega
    rw [List.getElem?_eq_getElem hi]
    have h1 : ((srt us).map (·.n))[i]? = some t.n := by rw [← e, List.getElem?_map, h]; rfl
    rw [List.getElem?_map, List.getElem?_eq_getElem hi] at h1
    have h2 : ((srt us)[i]).n = t.n := Option.some.inj h1
    have m1 : t ∈ srt us := hp.mem_iff.mp (List.mem_of_getElem? h)
    have m2 : (srt us)[i] ∈ srt us := List.getElem_mem hi
    have nn : ((srt us).map (·.n)).Nodup := (((srt_perm us).trans p.symm).map (·.n)).nodup_iff.mpr n
    have f1 := find_nodup (x := t.n) nn m1 rfl
    have f2 := find_nodup (x := t.n) nn m2 h2
    rw [f1] at f2
    exact f2
end Fr

namespace Fr
open PySem PySem.Spec PyProof.Rows L2
abbrev s_System_len : Stmt := inClass (topS 27) 1
theorem sc_System_len : FnScope ["self"] ["self"] (defScope s_System_len) := ⟨rfl, rfl, rfl, by decide +kernel, rfl, by decide +kernel, by decide +kernel⟩
-- slots: 0 self
abbrev s_System_eq : Stmt := inClass (topS 27) 2
theorem sc_System_eq : FnScope ["self", "other"] ["self", "other"] (defScope s_System_eq) := ⟨rfl, rfl, rfl, by decide +kernel, rfl, by decide +kernel, by decide +kernel⟩
-- slots: 0 self, 1 other
abbrev s_System_constant : Stmt := inClass (topS 27) 6
theorem sc_System_constant : FnScope ["self", "name"] ["self", "name"] (defScope s_System_constant) := ⟨rfl, rfl, rfl, by decide +kernel, rfl, by decide +kernel, by decide +kernel⟩
-- slots: 0 self, 1 name
abbrev s_Systemwith_tables : Stmt := inClass (topS 27) 15
theorem sc_Systemwith_tables : FnScope ["self", "tables", "made", "name"] ["self", "tables"] (defScope s_Systemwith_tables) := ⟨rfl, rfl, rfl, by decide +kernel, rfl, by decide +kernel, by decide +kernel⟩
-- slots: 0 self, 1 tables, 2 made, 3 name
section
variable {P : Program} {w : World} {K : PySem.W.Frag} {mg : Str → Option Value} {base : Heap}
def spLenS (K : PySem.W.Frag) (C : Addr) : Sp := fun vs H Q _ => ∃ (s : Addr) (d m : Int) (ts : List Tb), vs = [.ref s] ∧ SysAt K C H s d m ts ∧ Q (.int (ts.length : Nat)) H
theorem ok_lenS {f C : Addr} {fd : FuncData} (F : Fun K "__len__" "System.__len__" s_System_len f fd) (T : Txt mg) (TC : TxtC K mg C) : FnOk P w K mg base CX0 1 f fd ["self"] (spLenS K C) := by
  refine F.ok sc_System_len (fun vs H Q E h => ?_) (fun cdv A outer s H vs Q E hr h => ?_)
  · obtain ⟨s, d, m, ts, rfl, _⟩ := h
    rfl
  · obtain ⟨s, d, m, ts, rfl, S, q⟩ := h
    refine ⟨_, (pss_one (ps_ret (pe_callB call_lenD (by rfl) T.b_len PySem.boot_len (pa_cons (pe_fld (pv 0) rfl) pa_nil)))), ?_⟩
    obtain ⟨dx, t, kvs, h1, h2, h3⟩ := S.ob
    refine ⟨_, rfl, s, C, dx, _, _, rfl, h1, TC.cl, TC.nT, flds_t _ _ _, t, kvs, rfl, h2, ?_⟩
    rw [h3.len]
    exact q
def spSysEq (K : PySem.W.Frag) (C : Addr) : Sp := fun vs H Q _ => ∃ (a b : Addr) (d m d' m' : Int) (ts us : List Tb), vs = [.ref a, .ref b] ∧ SysAt K C H a d m ts ∧ SysAt K C H b d' m' us ∧ (∀ t ∈ ts, SeqAt.shaped t.k = true) ∧ (∀ t ∈ us, SeqAt.shaped t.k = true) ∧
  Q (.bl (decide (d = d') && (decide (m = m') && tabEq ts us))) H
theorem dec_int (a b : Int) : decide (V.int a = V.int b) = decide (a = b) := decide_eq_decide.mpr ⟨fun h => V.int.inj h, fun h => congrArg V.int h⟩
theorem ok_eqS {f C : Addr} {fd : FuncData} (F : Fun K "__eq__" "System.__eq__" s_System_eq f fd) (T : Txt mg) (TC : TxtC K mg C) (zi : mg "isinstance" = none) (isC : C8.InsC K C) : FnOk P w K mg base CX0 1 f fd ["self", "other"] (spSysEq K C) := by
  refine F.ok sc_System_eq (fun vs H Q E h => ?_) (fun cdv A outer s H vs Q E hr h => ?_)
  · obtain ⟨a, b, d, m, d', m', ts, us, rfl, _⟩ := h
    rfl
  · obtain ⟨a, b, d, m, d', m', ts, us, rfl, S, S', st, su, q⟩ := h
    refine ⟨_, (pss_one (ps_ret (pe_and (pe_callB (C8.call_isC isC) (by rfl) zi (by decide +kernel) (pa_cons (pv 1) (pa_cons (pe_glob (v := .ref C) (by rfl) TC.g_System rfl) pa_nil))) (pe_and (pe_cmpR op_eq (pe_fld (pv 0) rfl) (pe_fld (pv 1) rfl) (nomark _)) (pe_and (pe_cmpR op_eq (pe_fld (pv 0) rfl) (pe_fld (pv 1) rfl) (nomark _)) (pe_one (pe_cmpR (op_eqKv hr.units1) (pe_fld (pv 0) rfl) (pe_fld (pv 1) rfl) (nomark _)))))))), ?_⟩
    obtain ⟨dx, t, kvs, h1, h2, h3⟩ := S.ob
    obtain ⟨dx', t', kvs', h1', h2', h3'⟩ := S'.ob
    refine ⟨_, rfl, b, dx', _, rfl, h1', _, rfl, iteT ?_⟩
    refine ⟨_, rfl, a, C, dx, _, _, rfl, h1, TC.cl, TC.nD, flds_d _ _ _, _, rfl, b, C, dx', _, _, rfl, h1', TC.cl, TC.nD, flds_d _ _ _, rfl, _, rfl, ?_⟩
    rw [dec_int]
    cases e1 : decide (d = d') with
    | false =>
      rw [e1] at q
      exact iteF q
    | true =>
      rw [e1, Bool.true_and] at q
      refine iteT ?_
      refine ⟨_, rfl, a, C, dx, _, _, rfl, h1, TC.cl, TC.nM, flds_m _ _ _, _, rfl, b, C, dx', _, _, rfl, h1', TC.cl, TC.nM, flds_m _ _ _, rfl, _, rfl, ?_⟩
      rw [dec_int]
      cases e2 : decide (m = m') with
      | false =>
        rw [e2] at q
        exact iteF q
      | true =>
        rw [e2, Bool.true_and] at q
        refine iteT ?_
        refine ⟨_, rfl, a, C, dx, _, _, rfl, h1, TC.cl, TC.nT, flds_t _ _ _, _, rfl, b, C, dx', _, _, rfl, h1', TC.cl, TC.nT, flds_t _ _ _, t, t', kvs, kvs', _, rfl, rfl, h2, h2', fun _ => kvEq_of h3' su h3 st, ?_⟩
        unfold tabEq at q
        rw [h3.len, h3'.len]
        exact q
def spConst (K : PySem.W.Frag) (C : Addr) : Sp := fun vs H Q _ => ∃ (s : Addr) (d m : Int) (ts : List Tb) (x : Str) (tb : Tb), vs = [.ref s, .str x] ∧ SysAt K C H s d m ts ∧ x ∈ ts.map (·.n) ∧ ts.find? (fun t => decide (t.n = x)) = some tb ∧ ∀ H', Same H H' → Q (.int tb.c) H'
theorem ok_const {f C : Addr} {fd : FuncData} (F : Fun K "constant" "System.constant" s_System_constant f fd) (T : Txt mg) (TC : TxtC K mg C) (c_check_table : C8.Cal P w K mg base 3 "check_table" (spCheckTable K C) []) : FnOk P w K mg base CX0 4 f fd ["self", "name"] (spConst K C) := by
  refine F.ok sc_System_constant (fun vs H Q E h => ?_) (fun cdv A outer s H vs Q E hr h => ?_)
  · obtain ⟨s, d, m, ts, x, tb, rfl, _⟩ := h
    rfl
  · obtain ⟨s, d, m, ts, x, tb, rfl, S, hx, hf, q⟩ := h
    have hu := hu_of hr
    refine ⟨_, (pss_cons (ps_expr (C8.pe_c c_check_table hr (by decide) (by rfl) (pa_cons (pv 0) (pa_cons (pv 1) pa_nil))))
  (pss_one (ps_ret (pe_ix ix_tup (pe_dget hu (pe_fld (pv 0) rfl) (pv 1) (fun _ _ => rfl)) pe_int (fun _ _ => rfl))))), ?_⟩
    refine ⟨_, rfl, _, rfl, s, d, m, ts, x, rfl, S, hx, fun H1 sm => ?_⟩
    obtain ⟨dx, t, kvs, h1, h2, h3⟩ := (S.mono sm).ob
    obtain ⟨v, e1, e2⟩ := h3.get hf
    obtain ⟨a, ys, rfl, ht, hd⟩ := dtup e2
    obtain ⟨y1, y2, rfl, g1, g2⟩ := dps2 hd
    obtain rfl := dint g1
    refine ⟨_, rfl, s, C, dx, _, _, rfl, h1, TC.cl, TC.nT, flds_t _ _ _, _, rfl, t, _, rfl, ?_, a, _, 0, _, rfl, rfl, ht, rfl, q H1 sm⟩
    have g := DGet.k (k := Sum.inr x) h2
    rw [e1] at g
    exact g
theorem DGet.frz {H : Hp} {a : Addr} {o : PySem.Obj} {kvs : List (Key × V)} {k : Key} (e : H a = some (.frz o (.dK kvs))) : DGet H a (kV k) (valV kvs k) := .inl ⟨kvs, k, .inr ⟨o, e⟩, rfl, rfl⟩
theorem kv_at {H : Hp} : ∀ {kvs : List (Key × V)} {ts : List Tb} {i : Nat} {k : Key} {v : V}, KvAt K H kvs ts → kvs[i]? = some (k, v) → ∃ t, ts[i]? = some t ∧ k = Sum.inr t.n ∧ Dp K H v t.k
  | [], _, _, _, _, h, e => by cases e
  | p :: kvs, _, 0, k, v, h, e => by
    cases h with
    | cons h1 h2 =>
      cases e
      exact ⟨_, rfl, h1⟩
  | p :: kvs, _, i + 1, k, v, h, e => by
    cases h with
    | cons h1 h2 => exact kv_at (i := i) h2 (by simpa using e)
theorem st_upd {H : Hp} {t : Addr} {u v : HO} (h : H t = some u) (n : tupo u = false) : ST H (upd H t v) := fun b o e d => by
  have hb : b ≠ t := fun z => by
    rw [z, h] at e
    cases e
    rw [n] at d
    cases d
  rw [upd_ne hb]
  exact e
end
end Fr

namespace Fr
open PySem PySem.Spec PyProof.Rows L2
theorem putF_flds (d m : Int) (t t' : Addr) : putF "_tables" (.ref t') (flds d m t) = flds d m t' := by
  unfold flds
  simp only [putF, if_neg nDM, if_neg nDT, if_neg nMT, if_true]
def bare : Tb := ⟨"a", 0, []⟩
theorem bare_ok {d m : Int} (h1 : 1 ≤ d) (h3 : d ≤ 3) (hm : 2 ≤ m) : OkSys d m [bare] :=
  ⟨h1, h3, hm, by decide, by decide, ⟨(by intro t ht; rw [List.mem_singleton.mp ht]; decide +kernel), (by simp), (by decide), (by intro t ht r hr; rw [List.mem_singleton.mp ht] at hr; cases hr), (by intro t ht r hr; rw [List.mem_singleton.mp ht] at hr; cases hr)⟩⟩
theorem keys_kv {K : PySem.W.Frag} {H : Hp} : ∀ {kvs : List (Key × V)} {ts : List Tb}, KvAt K H kvs ts → kvs.map (·.1) = (ts.map (·.n)).map Sum.inr
  | [], _, h => by cases h; rfl
  | p :: kvs, _, h => by
    cases h with
    | cons h1 h2 =>
      rw [List.map_cons, List.map_cons, List.map_cons, keys_kv h2, h1.1]
section
variable {P : Program} {w : World} {K : PySem.W.Frag} {mg : Str → Option Value} {base : Heap}
def spWith (K : PySem.W.Frag) (C : Addr) (TT : List (Addr × Str)) : Sp := fun vs H Q _ => ∃ (s t : Addr) (d m : Int) (ts us : List Tb) (kvs : List (Key × V)), vs = [.ref s, .ref t] ∧ SysAt K C H s d m ts ∧ 1 ≤ d ∧ d ≤ 3 ∧ 2 ≤ m ∧ H t = some (.dK kvs) ∧ KvAt K H kvs us ∧ (us.map (·.n)).Nodup ∧ us.length ≤ 60 ∧ LamX.Tabs TT H ∧
  ∀ x H', H x = none → LamX.ExtN H H' → LamX.Tabs TT H' → SysAt K C H' x d m (srt us) → Q (.ref x) H'
theorem ok_with {f C : Addr} {fd : FuncData} {TT : List (Addr × Str)} (F : Fun K "_with_tables" "System._with_tables" s_Systemwith_tables f fd) (T : Txt mg) (TC : TxtC K mg C) (m_System3 : C8.Mak P w K mg base 5 "System" C (spInit K C TT) []) : FnOk P w K mg base CX0 7 f fd ["self", "tables"] (spWith K C TT) := by
  refine F.ok sc_Systemwith_tables (fun vs H Q E h => ?_) (fun cdv A outer sh H vs Q E hr h => ?_)
  · obtain ⟨s, t, d, m, ts, us, kvs, rfl, _⟩ := h
    rfl
  · obtain ⟨s, t, d, m, ts, us, kvs, rfl, S, hd1, hd3, hm2, ht, hkv, hnd, hlen, hT, q⟩ := h
    have hu := hu_of hr
    refine ⟨_, (pss_cons (ps_set (i := 2) sc_Systemwith_tables.nd rfl (by first | exact Or.inl rfl | exact Or.inr rfl) (C8.pe_mk m_System3 hr (by decide) (by rfl) (pa_cons (pe_fld (pv 0) rfl) (pa_cons (pe_lst (pa_cons (pe_tup (pa_cons pe_str (pa_cons pe_int (pa_cons (pe_lst pa_nil) pa_nil)))) pa_nil)) (pa_cons (pe_fld (pv 0) rfl) pa_nil)))))
  (pss_cons (ps_fld (pv 2) (pe_dc (own := [("name", 3)]) (g := gName 3) (tt := tYes) (by rfl) sc_Systemwith_tables.nd (pi_list (pe_callB (call_sortedD rfl) (by rfl) T.b_sorted (by decide +kernel) (pa_cons (pv 1) pa_nil))) (blkOk_by (N := ["self", "tables", "made", "name"]) (sc := defScope s_Systemwith_tables) (by decide +kernel)) (fun _ _ _ _ _ => (pg_name (i := 3) sc_Systemwith_tables.nd rfl (by first | exact Or.inl rfl | exact Or.inr rfl))) (fun _ _ _ _ _ => pts_nil) (fun _ _ _ _ _ => (pv 3)) (fun _ _ _ _ _ => (pe_dget hu (pv 1) (pv 3) (fun _ _ => rfl)))) rfl)
  (pss_one (ps_ret (pv 2))))), ?_⟩
    obtain ⟨dx, tt, kvs0, h1, h2, h3⟩ := S.ob
    -- made = System(..)
    refine ⟨_, rfl, s, C, dx, _, _, rfl, h1, TC.cl, TC.nD, flds_d _ _ _, Nat.zero_le _, fun l0 hl0 => ⟨(by show 3 ≤ sizeLine; decide), fun t0 ht0 => ⟨(by show 1 ≤ sizeLine; decide), fun l1 hl1 => ?_⟩⟩⟩
    have s1 : Same H (upd (upd (upd H l0 (.lst [])) t0 (.tup [.str "a", .int 0, .ref l0])) l1 (.lst [.ref t0])) := same_tr (snew hl0) (same_tr (snew ht0) (snew hl1))
    have D1 : Dp K (upd (upd (upd H l0 (.lst [])) t0 (.tup [.str "a", .int 0, .ref l0])) l1 (.lst [.ref t0])) (.ref l1) (.list ([bare].map Tb.d)) := by
      refine .lst (Or.inl (Or.inl upd_same)) (.cons (.tup (Or.inl (Or.inl (snew hl1 _ _ upd_same))) (.cons (.str _) (.cons (.int _) (.cons (.lst (Or.inl (Or.inl (snew hl1 _ _ (snew ht0 _ _ upd_same)))) .nil) .nil)))) .nil)
    generalize upd (upd (upd H l0 (.lst [])) t0 (.tup [.str "a", .int 0, .ref l0])) l1 (.lst [.ref t0]) = H1 at s1 D1
    refine ⟨_, rfl, s, C, dx, _, _, rfl, s1 _ _ h1, TC.cl, TC.nM, flds_m _ _ _, fun x dx2 nx ndx nex => ?_⟩
    have sx : Same H1 (upd (upd H1 dx2 (.own x)) x (.ins C dx2 [])) := same_tr (snew ndx) (snew (by rw [upd_ne nex.symm]; exact nx))
    refine ⟨x, dx2, d, m, .ref l1, [bare], rfl, upd_same, (hT.ext s1).ext sx, bare_ok hd1 hd3 hm2, dpm sx _ _ D1, fun H2 E2 hT2 S2 => ⟨rfl, ?_⟩⟩
    have xH : H x = none := free_of s1 nx
    have e2 : LamX.ExtN H H2 := fun b o e n => E2 b o (sx b o (s1 b o e)) (ne_of_none (s1 b o e) nx) n
    obtain ⟨dx3, t3, kvs3, o1, o2, o3⟩ := S2.ob
    have ht2 := e2 _ _ ht (fun ps z => by cases z)
    have hk2 := hkv.ext e2
    -- sorted(tables)
    refine ⟨_, rfl, t, kvs, us.map (·.n), rfl, Or.inl ht2, keys_kv hk2, by rw [List.length_map]; omega, fun ys p perm so hp => ?_⟩
    have ey := sorted_names perm so
    have sl : (srt us).length = us.length := List.length_mergeSort _
    have nds : ((srt us).map (·.n)).Nodup := ((srt_perm us).map (·.n)).nodup_iff.mpr hnd
    have s3 : Same H2 (upd H2 p (.lst (ys.map V.str))) := snew hp
    have hyl : (ys.map V.str).length = us.length := by rw [List.length_map, ey, List.length_map, sl]
    refine ⟨p, rfl, ⟨_, Or.inl (Or.inl upd_same)⟩, fun D hD => dc_it (walk_list (K := K) (a := p) (xs := ys.map V.str)) (fun i H' => ∃ kvs', Same (upd H2 p (.lst (ys.map V.str))) (upd H' D (.dK kvs')) ∧ H' D = some (.dK kvs') ∧ KvAt K H2 kvs' ((srt us).take i) ∧ ∀ b, b ≠ D → (upd H2 p (.lst (ys.map V.str))) b = H' b)
      ⟨[], fun b o e => by rw [upd_ne (ne_of_none e hD), upd_ne (ne_of_none e hD)]; exact e, upd_same, .nil, fun b hb => (upd_ne hb).symm⟩ (fun i H' _ ⟨kvs', b1, b2, _, b4⟩ => Or.inl (Or.inl (by rw [← b4 p fun z => by rw [← z, upd_same] at hD; cases hD]; exact upd_same))) ?_ ?_⟩
    · rintro i y _ Hi hi ⟨kvs', b1, b2, b3, b4⟩ ⟨rfl, hy⟩
      rw [List.getElem?_map, ey, List.getElem?_map] at hy
      obtain ⟨z, hz, rfl⟩ := Option.map_eq_some_iff.mp hy
      obtain ⟨u, hu1, rfl⟩ := Option.map_eq_some_iff.mp hz
      have humem : u ∈ us := (srt_perm us).mem_iff.mp (List.mem_of_getElem? hu1)
      have hf := find_nodup' hnd humem
      obtain ⟨v, e1, e3⟩ := hk2.get hf
      have tD : t ≠ D := ne_of_none (s3 _ _ ht2) hD
      have htI : Hi t = some (.dK kvs) := by rw [← b4 t tD]; exact s3 _ _ ht2
      refine ⟨rfl, yes_if ?_⟩
      refine ⟨_, rfl, _, rfl, _, rfl, t, v, rfl, ?_, kvs', Sum.inr u.n, rfl, b2, ?_, ?_⟩
      · have g := DGet.k (k := Sum.inr u.n) htI
        rw [e1] at g
        exact g
      · have : kvs'.length ≤ 60 := by
          rw [b3.len, List.length_take]
          omega
        exact Nat.lt_of_le_of_lt this (by rw [sizeLine_eq]; decide)
      · have hno : valV kvs' (Sum.inr u.n) = none := b3.noVal (by
          rw [List.map_take]
          exact notin_take nds (by rw [List.getElem?_map, hu1]; rfl))
        rw [putK_new _ hno]
        refine ⟨kvs' ++ [(Sum.inr u.n, v)], fun b o e => ?_, upd_same, ?_, fun b hb => by rw [upd_ne hb]; exact b4 b hb⟩
        · have hb : b ≠ D := ne_of_none e hD
          rw [upd_ne hb, upd_ne hb, ← b4 b hb]
          exact e
        · rw [List.take_add_one, hu1]
          exact b3.app (.cons ⟨rfl, e3⟩ .nil)
    · rintro Hf ⟨kvs', b1, b2, b3, b4⟩
      rw [hyl, ← sl, List.take_length] at b3
      have xD : x ≠ D := ne_of_none (s3 _ _ o1) hD
      have hxf : Hf x = some (.ins C dx3 (flds d m t3)) := by rw [← b4 x xD]; exact s3 _ _ o1
      refine ⟨_, rfl, x, C, dx3, _, rfl, hxf, TC.cl, TC.nT, (by show 3 < 1000; decide), _, rfl, ?_⟩
      rw [putF_flds]
      have sf : Same H2 Hf := fun b o e => by
        have hb : b ≠ D := ne_of_none (s3 _ _ e) hD
        rw [← b4 b hb]
        exact s3 _ _ e
      refine q x _ xH (fun b o e n => ?_) (tabs_ins (hT2.ext sf) hxf) ⟨dx3, D, kvs', upd_same, by rw [upd_ne xD.symm]; exact b2, b3.monoD (SD.upd (.of sf) hxf rfl)⟩
      rw [upd_ne (ne_of_none e xH)]
      exact sf _ _ (e2 _ _ e n)
end
end Fr

namespace Fr
open PySem PySem.Spec PyProof.Rows L2
/-- what the written part says of an error class -/
structure ErrC (K : PySem.W.Frag) (C : Addr) : Prop where
  oex : OexC K C
  ga : PySem.W.findIn K (.ref C) "__getattribute__" = some (some (.builtin "BaseException.__getattribute__"))
  gg : PySem.W.findIn K (.ref C) "__getattr__" = some none
  hd : PySem.W.hasDictIn K C = true
  kc : PySem.W.findIn K (.ref C) "__class__" = some (some (.builtin "object.__class__"))
  kg : PySem.W.specialIn K (.builtin "object.__class__") "__get__" = some (some (.builtin "getset_descriptor.__get__"))
  kt : PySem.W.takesIn K (.builtin "object.__class__") = some true
  km : PySem.W.mroIn K C (.type "object") = some true
/-- an error at a with these attributes -/
def ErrAt (H : Hp) (a C : Addr) (fs : List (Str × V)) : Prop := ∃ d : Addr, H a = some (exo a C (some d)) ∧ H d = some (exd d fs)
theorem ErrAt.mono {H H' : Hp} {a C : Addr} {fs : List (Str × V)} (h : ErrAt H a C fs) (e : Same H H') : ErrAt H' a C fs := by
  obtain ⟨d, h1, h2⟩ := h
  exact ⟨d, e _ _ h1, e _ _ h2⟩
section
variable {X : Cx} {C fI : Addr} {k : Nat} {fd : FuncData} {ps : List Str} {sp : Sp} {x f : Str} {p pos : Pos} {e : Expr} {es : List Expr} {t : TA} {te : TE}
/-- C(e, ..), the error itself -/
def tMkV (C : Addr) (sp : Sp) (t : TA) : TE := fun σ H Q => t σ H fun vs H1 => vs.length ≤ 1000 ∧ ∀ a, H1 a = none → sp (.ref a :: vs) (upd H1 a (exo a C none)) (fun v H2 => v = .non ∧ Q (.ref a) H2) C8.E0
theorem pe_mkV (T : OexC X.K C) (iC : PySem.W.findIn X.K (.ref C) "__init__" = some (some (.ref fI))) (tI : PySem.W.typeIn X.K (.ref fI) = some (.type "function")) (F : FnOk X.prog X.w X.K X.mg X.base CX0 k fI fd ps sp) (hr : Room (k + 1) X.A) (hb : Binds X.K fd ps [])
    (hg : Gl X x) (hm : X.mg x = some (.ref C)) (ha : PA X (e :: es) t) (hdb : (x == ("__debug__" : Str)) = false := by decide) (he : starEach (e :: es) X.env = (false, eval e X.env) :: starEach es X.env := by rfl) (hpl : (backTo pos (starEach es X.env)).any (·.1) = false := by rfl) :
    PE X (.Call (.Name x p) (e :: es) [] pos) (tMkV C sp t) := by
  constructor
  intro pins s σ H Q I h
  obtain ⟨nm, q, N, bs, bm, sn, sub, ab, col, dd, k0, k1, k2, k3, k5, hC, hbm⟩ := T.cls
  refine wpAny_Call_Name_kw (ld_glob I hg hm (PySem.W.callWith_K (h₀ := X.base) I.ok.mod.kin T.kC (thn (ha.run pos pins s σ H _ I h) ?_) he hpl) hdb)
  rintro us s1 ⟨vs, H1, I1, r1, hz, q1⟩
  refine ⟨I1.kIn, ?_⟩
  show wpAny _ _ (call (.ref C) us) _ _ _
  obtain ⟨hp, g, dr, tk, os⟩ := s1
  have big : hp.objs.size ≤ hp.objs.size + 1 := Nat.le_succ _
  have hq := q1 (hp.objs.size + 1) (I1.hok.fresh big)
  have old : ∀ b o, hp.get? b = some o → ((hp.push (PySem.W.kdv_tup us)).push (PySem.HandSPX.excO C hp.objs.size)).get? b = some o := fun b o z => Heap.get?_push_of_some _ (Heap.get?_push_of_some _ z)
  have new : ((hp.push (PySem.W.kdv_tup us)).push (PySem.HandSPX.excO C hp.objs.size)).get? (hp.objs.size + 1) = some (PySem.HandSPX.excO C hp.objs.size) := by heap_get
  have J : Inv X pins σ (upd H1 (hp.objs.size + 1) (exo (hp.objs.size + 1) C none)) ⟨(hp.push (PySem.W.kdv_tup us)).push (PySem.HandSPX.excO C hp.objs.size), g, dr, tk, os⟩ := I1.laid (t' := tk) (o := exo (hp.objs.size + 1) C none) old big (exo_ok new)
  have rr : Vals (V.ref (hp.objs.size + 1) :: vs) (Value.ref (hp.objs.size + 1) :: us) := .cons rfl r1
  have hl : ((Value.ref (hp.objs.size + 1) :: us) ++ ([] : List Value)).length = ps.length := by
    rw [List.append_nil, ← rr.length]
    exact F.len _ _ _ _ hq
  have hu : us.length ≤ sizeLine := by
    rw [← Paired.length r1, sizeLine_eq]
    omega
  have bd := hb ⟨(hp.push (PySem.W.kdv_tup us)).push (PySem.HandSPX.excO C hp.objs.size), g, dr, tk, os⟩ (Value.ref (hp.objs.size + 1) :: us) J.kIn hl
  rw [List.append_nil] at bd
  refine wpAny_call (PySem.HandSPX.call_own PySem.F.excBase_ValueError (fun Y => PySem.HandSPX.refsVE_contains Y bm hbm) (I1.kIn _ _ hC) (PySem.W.looks_findIn I1.kIn iC) (fun self => PySem.W.bind_fn I1.kIn self tI) hu
    (codeAny_mono (FnOk.run F _ X.stack _ _ ⟨Value.ref (hp.objs.size + 1) :: us, []⟩ (Value.ref (hp.objs.size + 1) :: us) _ _ C8.E0 (hr.make C us []) (J.env0.make C us []) bd rr hq) ?_))
  intro rs s2 z
  match rs, z with
  | .error er, z => exact pass0 (X := X) pins σ _ _ er s2 J z
  | .ok .next, z => exact z.elim
  | .ok .brk, z => exact z.elim
  | .ok .cont, z => exact z.elim
  | .ok (.ret u), z =>
    obtain ⟨v, H2, I3, rv, ev, q3⟩ := J.after z
    subst ev
    exact ⟨rv, .ref (hp.objs.size + 1), H2, I3, rfl, q3⟩
/-- e.f, e an error -/
def tErrF (K : PySem.W.Frag) (f : Str) (te : TE) : TE := fun σ H Q => te σ H fun x H1 => ∃ (a C : Addr) (fs : List (Str × V)) (v : V), x = .ref a ∧ ErrC K C ∧ ErrAt H1 a C fs ∧ PySem.W.findIn K (.ref C) f = some none ∧ fs.lookup f = some v ∧ Q v H1
theorem pe_errF (he : PE X e te) (hb : attributeBase e f X.env (eval e X.env) = eval e X.env := by rfl) : PE X (.Attribute e f pos) (tErrF X.K f te) := by
  constructor
  intro pins s σ H Q I h
  refine attr_of hb (thn (he.run pins s σ H _ I h) ?_)
  rintro u s1 ⟨x, H1, I1, rx, a, C, fs, v, rfl, T, ⟨d, h1, h2⟩, no, hl, q⟩
  obtain rfl : u = Value.ref a := rx
  obtain ⟨t1, ho⟩ := exo_at I1.hok h1
  obtain ⟨mA, hns, rel⟩ := exd_at I1.hok h2
  obtain ⟨od, hod, lk⟩ := lookIn_ns hns
  obtain ⟨u, hu, ru⟩ := RelO.some_of (v := v) (o := mA f) (by rw [← hl]; exact rel f)
  exact HandSPX.exc_get I1.kIn (od := some od) ⟨ho, rfl, rfl, hod⟩ T.ga T.gg T.oex.exC (PySem.W.findObj_own T.hd no rfl (by rw [lk, hu])) (handed_of ru) ⟨v, H1, I1.tok _, ru, q⟩
/-- isinstance(e, c), e an error -/
def rIsX (K : PySem.W.Frag) : List V → Hp → VK → Prop := fun xs H Q => ∃ (a C : Addr) (fs : List (Str × V)) (c : V) (cv : Value) (b : Bool), xs = [.ref a, c] ∧ ErrC K C ∧ ErrAt H a C fs ∧ ClsV c cv ∧ PySem.W.kitOne K (.ref C) cv = some b ∧ Q (.bl b) H
theorem call_isX : CallR X (.builtin "isinstance") (rIsX X.K) := by
  intro pins s σ H xs us Q I r h
  obtain ⟨a, C, fs, c, cv, b, rfl, T, ⟨d, h1, h2⟩, hc, e, q⟩ := h
  obtain ⟨u1, u2, rfl, r1, r2⟩ := vals2 r
  obtain rfl := hc.eq r2
  obtain rfl : u1 = Value.ref a := r1
  obtain ⟨t1, ho⟩ := exo_at I.hok h1
  obtain ⟨mA, hns, rel⟩ := exd_at I.hok h2
  obtain ⟨od, hod, lk⟩ := lookIn_ns hns
  have is : PySem.W.InstAt s.heap a _ C (some od) := ⟨ho, rfl, rfl, hod⟩
  have cl : (PySem.W.clsIn X.K C).isSome = true := by
    obtain ⟨cd, hcd, _⟩ := PySem.W.any_some T.hd
    rw [hcd]
    rfl
  exact PySem.W.kia_one (PySem.W.kitx_exc cl T.ga T.gg T.oex.exC T.kc T.kg T.kt T.km) I.kIn is e (fun z => by cases z) fun tk => ⟨.bl b, H, I.tok tk, rfl, q⟩
end
end Fr

namespace Fr
open PySem PySem.Spec PyProof.Rows L2
/-- an error as a thing that is tracked: its class, its dict -/
def exq (a : Addr) (cls : Value) (d : Option Addr) : HO := .ext fun h => ∃ (o : PySem.Obj) (vs : Array Value), h.get? a = some o ∧ Zc cls d o ∧ o.data = .fields vs
theorem exq_ok {P : Program} {w : World} {H : Hp} {h : Heap} {a : Addr} {cls : Value} {d : Option Addr} {o : PySem.Obj} {vs : Array Value} (e : h.get? a = some o) (z : Zc cls d o) (f : o.data = .fields vs) : ObjOk P w H h a (exq a cls d) :=
  ⟨⟨o, vs, e, z, f⟩, ⟨_, e⟩, fun h1 h2 q k => by
    obtain ⟨o', vs', e', z', f'⟩ := q
    exact ⟨o', vs', k _ e', z', f'⟩⟩
section
variable {X : Cx} {pins : List (Addr × PySem.Obj)} {σ : L2.St} {H : Hp} {s : Shared} {a : Addr} {o : HO}
/-- a thing of the heap that was not tracked is tracked from now on -/
theorem inv_adopt (I : Inv X pins σ H s) (na : H a = none) (old : X.s_0.heap.get? a = none) (nl : a ≠ X.env.locals) (nc : ∀ x c, X.env.cells.lookup x = some c → c ≠ a) (np : ∀ p ∈ X.pn ++ pins, p.1 ≠ a) (new : ObjOk X.prog X.w (upd H a o) s.heap a o) : Inv X pins σ (upd H a o) s := by
  have up : ∀ {b : Addr} {u : HO}, H b = some u → upd H a o b = some u := fun {b u} e => by
    rw [upd_ne (ne_of_none e na)]
    exact e
  have u := I.base
  refine { I with base := { keep := u.keep, slot := u.slot, free := ?_, there := u.there, tups := ?_, frzs := ?_, tbls := ?_ }, free := ?_, freeC := ?_, pin := ?_, hok := ?_ }
  · intro b q e n hx
    have hb : b ≠ a := fun z => by
      rw [z, old] at e
      cases e
    rw [upd_ne hb]
    exact u.free b q e n hx
  · exact fun b xs e => up (u.tups b xs e)
  · exact fun b q v e => up (u.frzs b q v e)
  · intro b ps e
    obtain ⟨more, z⟩ := u.tbls b ps e
    exact ⟨more, up z⟩
  · rw [upd_ne nl.symm]
    exact I.free
  · intro x c e
    rw [upd_ne (nc x c e)]
    exact I.freeC x c e
  · intro p hp
    obtain ⟨z1, z2, z3⟩ := I.pin p hp
    exact ⟨z1, by rw [upd_ne (np p hp)]; exact z2, z3⟩
  · intro b q e
    by_cases hb : b = a
    · subst hb
      rw [upd_same] at e
      cases e
      exact new
    · rw [upd_ne hb] at e
      exact (I.hok b q e).stay (fun _ _ _ z => z) (fun c z => up z) fun c xs z => up z
end
/-- what a body must know of its error when the clause keeps it: slot i is the clause's name, slot j the variable -/
def wKeep (K : PySem.W.Frag) (c : Value) (i j : Nat) (D : Ends) : WX := fun cls d σ H => PySem.W.exmOne K cls c = some true ∧ ∀ a, H a = none → D.nx ((((σ.set i (some (.ref a))).set j (some (.ref a)))).set i none) (upd H a (exq a cls d))
section
variable {X : Cx} {x n y : Str} {c : Value} {i j : Nat} {body : List Stmt} {np yp ep pos pos' apos : Pos} {tb : WX → TS}
theorem ps_try_keep (hs : X.stack = X.env :: X.outer) (hf : X.env.frame = some X.env.locals) (hex : X.ex = []) (hN : X.N.Nodup) (hi : X.N[i]? = some n) (hj : X.N[j]? = some y) (hln : X.env.kindOf n = some .local) (hly : X.env.kindOf y = some .local) (hij : i ≠ j) (hc : Names X x c)
    (hb : ∀ (W : WX) (pn : List (Addr × PySem.Obj)) (xe : Value → Shared → Prop), Takes (X.tr pn xe) W → PassesOwn (model X.prog X.w) X.A X.env xe → PSs (X.tr pn xe) body (tb W))
    (hsw : swapsWith (.Name n ep) (some (.Name y yp)) apos.line X.env = pure false := by rfl) (hd : (n == ("__debug__" : Str)) = false := by decide) (hcd : (n == ("__classdict__" : Str)) = false := by decide) :
    PS X (.Try body [.ExceptHandler (some (.Name x np)) (some n) [.Assign [.Name y yp] (.Name n ep) apos] pos'] [] [] pos) (fun D σ H => tb (wKeep X.K c i j D) D σ H) := by
  constructor
  intro pins s σ H D I h
  have ok := I.ok
  have fra : X.A.frames = some (X.env :: X.outer) := ok.frames.trans (congrArg some hs)
  obtain ⟨xe, hxe⟩ : ∃ xe : Value → Shared → Prop, xe = fun e s₁ => wpAny (model X.prog X.w) X.A (noteFrame e X.env) (fun _ s₂ => wpAny (model X.prog X.w) X.A (setFlight e none) (fun _ s₃ =>
    wpAny (model X.prog X.w) X.A (handleBy e X.env [.ExceptHandler (some (.Name x np)) (some n) [.Assign [.Name y yp] (.Name n ep) apos] pos']) (SP X pins D) X.xe s₃) X.xe s₂) X.xe s₁ := ⟨_, rfl⟩
  have pas : PassesOwn (model X.prog X.w) X.A X.env xe := by rw [hxe]; exact PassesOwn.looking
  have caught : Takes (X.tr (X.pn ++ pins) xe) (wKeep X.K c i j D) := by
    rw [hxe]
    rintro u s1 ⟨a, B, sI, pins', σ1, H1, cls, d, rfl, J0, nb, up, sky, na, os, ag, hb1, hyes⟩
    have J : Inv X pins σ1 H1 sI := J0.ofTry ok
    have sky1 : Sky B (X.env :: X.outer) a (Zc cls d) X.env.locals s1.heap := hs ▸ sky
    show wpAny (model X.prog X.w) X.A (noteFrame (.ref a) X.env) _ _ _
    refine Sky.land Zc.steady fra hf sky1 fun g3 fly3 u3 => ?_
    have K3 : Inv X pins σ1 H1 { s1 with heap := g3 } := J.landed nb fly3.1 (up.trans u3) os ag
    obtain ⟨q3, vs3, at3, z3, dat3⟩ := fly3.there
    have out : a ∉ frs (X.env :: X.outer) := fun hm => by
      obtain ⟨_, q', e', nof⟩ := fly3.2.2.1.mem hm
      rw [at3] at e'
      cases e'
      exact nof _ dat3
    have aL : a ≠ X.env.locals := fun z => out (List.mem_filterMap.mpr ⟨X.env, List.mem_cons_self, by rw [hf, z]⟩)
    have aF : a ∉ X.fs := fun hm => by
      obtain ⟨e, he, q⟩ := List.mem_filterMap.mp hm
      exact out (List.mem_filterMap.mpr ⟨e, List.mem_cons_of_mem _ he, q⟩)
    have gone : sI.heap.get? a = none := by
      cases q : sI.heap.get? a with
      | none => rfl
      | some w =>
        have z := nb a w q (by rw [hs]; exact out)
        rw [fly3.2.1] at z
        cases z
    have S3 := K3.suite at3 dat3 na aL aF
    refine wpAny_handleBy_cons (codeAny_handlers_test ?_) (by intro q; cases q)
    have ty3 : PySem.W.Looks (model X.prog X.w) g3 (typeOf (.ref a)) cls := fun A Q E s k q => wpAny_typeOf_ref (k _ _ at3) (by rw [z3.1]; exact q)
    have hit := PySem.W.exm_one (M := model X.prog X.w) K3.kIn ty3 hb1
    have asks : ∀ {Q : Value → Shared → Prop} {E : Value → Shared → Prop}, Q c { s1 with heap := g3 } → wpAny (model X.prog X.w) (X.A.mark (some (.ref a))) (eval (.Name x np) X.env) Q E { s1 with heap := g3 } := fun {Q E} q => by
      obtain ⟨hg, nd, hm | ⟨hm, hv, nn⟩⟩ := hc
      · exact ld_glob S3 hg hm q nd
      · exact ld_blt S3 hg hm hv q nn nd
    refine asks (hit.here ?_)
    refine codeAny_handlers_suite_as (HandSPX.lands_againZ fly3 fun g4 fly4 u4 => ?_)
    have K4 : Inv X pins σ1 H1 { s1 with heap := g4 } := J.landed nb fly4.1 ((up.trans u3).trans u4) os ag
    obtain ⟨q4, vs4, at4, z4, dat4⟩ := fly4.there
    have S4 := K4.suite at4 dat4 na aL aF
    have one : PSs (X.suite a ((a, q4) :: (X.pn ++ pins))) [.Assign [.Name y yp] (.Name n ep) apos] (tAsg (tVar i) (gName j)) :=
      pss_one (ps_set (X := X.suite a ((a, q4) :: (X.pn ++ pins))) hN hj (.inl hly) (pe_var (X := X.suite a ((a, q4) :: (X.pn ++ pins))) hi (.inl hln) hd hcd) hsw (.inr hly))
    refine store_ok (X := X.suite a ((a, q4) :: (X.pn ++ pins))) (v := .ref a) S4 hN hi (.inl hln) rfl (fun s5 S5 => ?_) (.inr hln)
    have hlen : i < σ1.length := by
      rw [K4.len]
      exact (List.getElem?_eq_some_iff.mp hi).1
    refine wpAny_mono (one.run [] s5 _ H1 { nx := fun σ' H' => σ' = (σ1.set i (some (.ref a))).set j (some (.ref a)) ∧ H' = H1, rt := fun _ _ => False, bk := fun _ _ => False, ct := fun _ _ => False } S5 ⟨.ref a, List.getElem?_set_self hlen, rfl, rfl⟩) (fun f s6 q => ?_) (fun _ _ z => False.elim z)
    cases f with
    | brk => obtain ⟨_, _, _, z⟩ := q; exact z.elim
    | cont => obtain ⟨_, _, _, z⟩ := q; exact z.elim
    | ret u => obtain ⟨_, _, _, _, _, z⟩ := q; exact z.elim
    | next =>
      obtain ⟨σ6, H6, S6, rfl, rfl⟩ := q
      obtain ⟨at6, _⟩ := S6.pin (a, q4) (List.mem_append_left _ List.mem_cons_self)
      have K6 : Inv X pins _ H6 s6 := S6.unsuite ok
      have K7 := inv_adopt K6 na ?_ aL ?_ ?_ (exq_ok at6 z4 dat4)
      · exact gone_ok K7 hN hi hln fun s7 K8 => ⟨_, _, K8, hyes a na⟩
      · cases q : X.s_0.heap.get? a with
        | none => rfl
        | some w =>
          obtain ⟨w', z⟩ := J.base.there a w q (by rw [hex]; exact fun z => nomatch z)
          rw [gone] at z
          cases z
      · intro v k e z
        subst z
        obtain ⟨w, q, z, _⟩ := J.cell v _ e
        rw [gone] at z
        cases z
      · intro p hp z
        obtain ⟨e, _⟩ := J.pin p hp
        rw [z, gone] at e
        cases e
  have R := (hb (wKeep X.K c i j D) (X.pn ++ pins) xe caught pas).run [] s σ H D (I.toTry _) h
  rw [hxe] at R
  refine wpAny_Try_except (wpAny_mono R (fun f s1 q => ?_) fun _ _ z => z)
  cases f with
  | next =>
    obtain ⟨σ1, H1, J, z⟩ := q
    exact wpAny_execs_nil ⟨σ1, H1, J.ofTry ok, z⟩
  | brk =>
    obtain ⟨σ1, H1, J, z⟩ := q
    exact ⟨σ1, H1, J.ofTry ok, z⟩
  | cont =>
    obtain ⟨σ1, H1, J, z⟩ := q
    exact ⟨σ1, H1, J.ofTry ok, z⟩
  | ret u =>
    obtain ⟨v, σ1, H1, J, r, z⟩ := q
    exact ⟨v, σ1, H1, J.ofTry ok, r, z⟩
end
end Fr

namespace Fr
open PySem PySem.Spec PyProof.Rows L2
section
variable {P : Program} {w : World} {K : PySem.W.Frag} {mg : Str → Option Value} {base : Heap}
/-- the promise of a def whose body may raise -/
theorem fun_okX {x qual : Str} {st : Stmt} {f : Addr} {fd : FuncData} {N ps : List Str} {k : Nat} {sp : Sp} (F : Fun K x qual st f fd) (S : FnScope N ps (defScope st)) (len : ∀ vs H Q E, sp vs H Q E → vs.length = ps.length)
    (body : ∀ (cdv : Value) (A : Around) (outer : List Env) (s : Shared) (H : Hp) (vs : List V) (Q : VK) (E : XK), Room k (A.deeper (envOfC qual (defScope st) s.heap.objs.size f cdv)) → sp vs H Q E →
      ∃ t, PSs (cxOf (L2.CX P w) P w K mg base N qual (defScope st) f cdv A outer s H E) (defBody st) t ∧ t { nx := fun _ H' => Q .non H', rt := Q } (start N vs) H) : FnOk P w K mg base (L2.CX P w) (k + 1) f fd ps sp := by
  obtain ⟨oc, od, kV, doc, pm, an, cdv, ct, osl, rfl, lk, hcd⟩ := F.ex
  exact fn_of lk hcd S len fun A outer s H vs Q E hr hsp => body cdv A outer s H vs Q E hr hsp
/-- a def that raises, by its name -/
structure CalX (P : Program) (w : World) (K : PySem.W.Frag) (mg : Str → Option Value) (base : Heap) (k : Nat) (x : Str) (sp : Sp) : Prop where
  ex : ∃ (f : Addr) (fd : FuncData) (ps : List Str), FnOk P w K mg base (L2.CX P w) k f fd ps sp ∧ mg x = some (.ref f) ∧ PySem.W.keepIn K (.ref f) = true ∧ Binds K fd ps []
theorem pe_cx {X : Cx} {k j : Nat} {x : Str} {sp : Sp} {W : WX} {e : Expr} {es : List Expr} {t : TA} {p pos : Pos} (c : CalX X.prog X.w X.K X.mg X.base k x sp) (hr : Room j X.A) (hk : k ≤ j) (hg : Gl X x) (tk : Takes X W) (ha : PA X (e :: es) t)
    (hdb : (x == ("__debug__" : Str)) = false := by decide) (he : starEach (e :: es) X.env = (false, eval e X.env) :: starEach es X.env := by rfl) (hpl : (backTo pos (starEach es X.env)).any (·.1) = false := by rfl) : PE X (.Call (.Name x p) (e :: es) [] pos) (tCallS sp (WE W) t) := by
  obtain ⟨f, fd, ps, F, hm, kp, b⟩ := c.ex
  exact pe_callS F (hr.mono hk) hg hm kp b (fun σ => passAt tk σ) ha hdb he hpl
/-- two promises of one def, one of them without errors -/
theorem fn_or {k : Nat} {f : Addr} {fd : FuncData} {ps : List Str} {sp0 sp1 : Sp} (F0 : FnOk P w K mg base CX0 k f fd ps sp0) (F1 : FnOk P w K mg base (L2.CX P w) k f fd ps sp1) : FnOk P w K mg base (L2.CX P w) k f fd ps (fun vs H Q E => sp0 vs H Q E ∨ sp1 vs H Q E) :=
  ⟨fun vs H Q E h => h.elim (F0.len vs H Q E) (F1.len vs H Q E), fun A outer s H args us vs Q E hr e0 hb r h => h.elim
    (fun h => codeAny_mono (F0.run A outer s H args us vs Q E hr e0 hb r h) fun rs s' z => by
      cases rs with
      | error e => exact False.elim z
      | ok fl => cases fl <;> exact z) (F1.run A outer s H args us vs Q E hr e0 hb r)⟩
end
def ErrQ (H : Hp) (a C : Addr) (fs : List (Str × V)) : Prop := ∃ d : Addr, H a = some (exq a (.ref C) (some d)) ∧ H d = some (.xd fs)
theorem ErrQ.mono {H H' : Hp} {a C : Addr} {fs : List (Str × V)} (h : ErrQ H a C fs) (e : Same H H') : ErrQ H' a C fs := by
  obtain ⟨d, h1, h2⟩ := h
  exact ⟨d, e _ _ h1, e _ _ h2⟩
theorem ErrQ.look {X : Cx} {pins : List (Addr × PySem.Obj)} {σ : L2.St} {H : Hp} {s : Shared} {a C : Addr} {fs : List (Str × V)} (I : Inv X pins σ H s) (h : ErrQ H a C fs) :
    ∃ (o od : PySem.Obj) (mA : Str → Option Value), PySem.W.InstAt s.heap a o C (some od) ∧ (∀ f, RelO (fs.lookup f) (mA f)) ∧ ∀ f, PySem.W.lookIn f od = some (mA f) := by
  obtain ⟨d, h1, h2⟩ := h
  obtain ⟨⟨o, vs, e, z, df⟩, _⟩ := (show ObjOk X.prog X.w H s.heap a (exq a (.ref C) (some d)) from I.hok a _ h1)
  obtain ⟨mA, hns, rel⟩ := (show ObjOk X.prog X.w H s.heap d (.xd fs) from I.hok d _ h2)
  obtain ⟨od, hod, lk⟩ := lookIn_ns hns
  refine ⟨o, od, mA, ⟨e, z.1, ?_, ?_⟩, rel, lk⟩
  · unfold PySem.W.notCls
    rw [df]
  · rw [z.2]
    exact hod
section
variable {X : Cx} {f : Str} {pos : Pos} {e : Expr} {te : TE}
/-- e.f, e a caught error -/
def tErrG (K : PySem.W.Frag) (f : Str) (te : TE) : TE := fun σ H Q => te σ H fun x H1 => ∃ (a C : Addr) (fs : List (Str × V)) (v : V), x = .ref a ∧ ErrC K C ∧ ErrQ H1 a C fs ∧ PySem.W.findIn K (.ref C) f = some none ∧ fs.lookup f = some v ∧ Q v H1
theorem pe_errG (he : PE X e te) (hb : attributeBase e f X.env (eval e X.env) = eval e X.env := by rfl) : PE X (.Attribute e f pos) (tErrG X.K f te) := by
  constructor
  intro pins s σ H Q I h
  refine attr_of hb (thn (he.run pins s σ H _ I h) ?_)
  rintro u s1 ⟨x, H1, I1, rx, a, C, fs, v, rfl, T, eq, no, hl, q⟩
  obtain rfl : u = Value.ref a := rx
  obtain ⟨o, od, mA, J, rel, lk⟩ := eq.look I1
  obtain ⟨u, hu, ru⟩ := RelO.some_of (v := v) (o := mA f) (by rw [← hl]; exact rel f)
  exact HandSPX.exc_get I1.kIn J T.ga T.gg T.oex.exC (PySem.W.findObj_own T.hd no rfl (by rw [lk, hu])) (handed_of ru) ⟨v, H1, I1.tok _, ru, q⟩
/-- isinstance(e, c), e a caught error -/
def rIsQ (K : PySem.W.Frag) : List V → Hp → VK → Prop := fun xs H Q => ∃ (a C : Addr) (fs : List (Str × V)) (c : V) (cv : Value) (b : Bool), xs = [.ref a, c] ∧ ErrC K C ∧ ErrQ H a C fs ∧ ClsV c cv ∧ PySem.W.kitOne K (.ref C) cv = some b ∧ Q (.bl b) H
theorem ErrC.cl {K : PySem.W.Frag} {C : Addr} (T : ErrC K C) : (PySem.W.clsIn K C).isSome = true := by
  obtain ⟨cd, hcd, _⟩ := PySem.W.any_some T.hd
  rw [hcd]
  rfl
theorem call_isQ : CallR X (.builtin "isinstance") (rIsQ X.K) := by
  intro pins s σ H xs us Q I r h
  obtain ⟨a, C, fs, c, cv, b, rfl, T, eq, hc, e, q⟩ := h
  obtain ⟨u1, u2, rfl, r1, r2⟩ := vals2 r
  obtain rfl := hc.eq r2
  obtain rfl : u1 = Value.ref a := r1
  obtain ⟨o, od, mA, J, _, _⟩ := eq.look I
  exact PySem.W.kia_one (PySem.W.kitx_exc T.cl T.ga T.gg T.oex.exC T.kc T.kg T.kt T.km) I.kIn J e (fun z => by cases z) fun tk => ⟨.bl b, H, I.tok tk, rfl, q⟩
/-- isinstance(e, (c, ..)), e a caught error -/
def rIsQT (K : PySem.W.Frag) : List V → Hp → VK → Prop := fun xs H Q => ∃ (a C tp : Addr) (fs : List (Str × V)) (cs : List V) (ws : List Value) (b : Bool), xs = [.ref a, .ref tp] ∧ ErrC K C ∧ ErrQ H a C fs ∧ H tp = some (.tup cs) ∧ Paired ClsV cs ws ∧ PySem.W.kitAny K (.ref C) ws = some b ∧ Q (.bl b) H
theorem call_isQT : CallR X (.builtin "isinstance") (rIsQT X.K) := by
  intro pins s σ H xs us Q I r h
  obtain ⟨a, C, tp, fs, cs, ws, b, rfl, T, eq, ht, hc, e, q⟩ := h
  obtain ⟨u1, u2, rfl, r1, r2⟩ := vals2 r
  obtain rfl : u2 = Value.ref tp := r2
  obtain rfl : u1 = Value.ref a := r1
  obtain ⟨o, od, mA, J, _, _⟩ := eq.look I
  obtain ⟨_, its, rv, to, h1, h2, n, h3⟩ := (show ObjOk X.prog X.w H s.heap tp (.tup cs) from I.hok tp _ ht)
  obtain rfl := ClsV.all hc rv
  obtain ⟨oc, odd, dt, sl⟩ := to
  simp only at h2 h3
  subst h2 h3
  exact PySem.W.kia_tup (PySem.W.kitx_exc T.cl T.ga T.gg T.oex.exC T.kc T.kg T.kt T.km) I.kIn J h1 e (fun z => by cases z) fun tk => ⟨.bl b, H, I.tok tk, rfl, q⟩
end
end Fr

namespace Fr
open PySem PySem.Spec PyProof.Rows L2
abbrev s_ReadError_init : Stmt := inClass (topS 2) 0
theorem sc_ReadError_init : FnScope ["self", "value"] ["self", "value"] (defScope s_ReadError_init) := ⟨rfl, rfl, rfl, by decide +kernel, rfl, by decide +kernel, by decide +kernel⟩
-- slots: 0 self, 1 value
section
variable {P : Program} {w : World} {K : PySem.W.Frag} {mg : Str → Option Value} {base : Heap}
/-- self.value = value, the error being made -/
def spErrI (K : PySem.W.Frag) : Sp := fun vs H Q _ => ∃ (a C : Addr) (y : V), vs = [.ref a, y] ∧ OexC K C ∧ H a = some (exo a C none) ∧ PySem.W.findIn K (.ref C) "value" = some none ∧ ∀ dx, H dx = none → dx ≠ a → Q .non (upd (upd H dx (exd dx [(("value" : Str), y)])) a (exo a C (some dx)))
theorem ok_errI {f : Addr} {fd : FuncData} (F : Fun K "__init__" "ReadError.__init__" s_ReadError_init f fd) : FnOk P w K mg base CX0 1 f fd ["self", "value"] (spErrI K) := by
  refine F.ok sc_ReadError_init (fun vs H Q E h => ?_) (fun cdv A outer sh H vs Q E hr h => ?_)
  · obtain ⟨a, C, y, rfl, _⟩ := h
    rfl
  · obtain ⟨a, C, y, rfl, T, ha, no, q⟩ := h
    exact ⟨_, pss_one (ps_ost (pv 0) (pv 1)), _, rfl, _, rfl, a, C, rfl, T, no, Or.inl ⟨ha, q⟩⟩
/-- an error class of the program, to be raised -/
structure MkR (P : Program) (w : World) (K : PySem.W.Frag) (mg : Str → Option Value) (base : Heap) (k : Nat) (x : Str) (C : Addr) : Prop where
  err : ErrC K C
  no : PySem.W.findIn K (.ref C) "value" = some none
  ex : ∃ (f : Addr) (fd : FuncData) (ps : List Str), PySem.W.findIn K (.ref C) "__init__" = some (some (.ref f)) ∧ PySem.W.typeIn K (.ref f) = some (.type "function") ∧ FnOk P w K mg base CX0 k f fd ps (spErrI K) ∧ Binds K fd ps [] ∧ mg x = some (.ref C)
theorem ps_err {X : Cx} {W : WX} {k j : Nat} {x : Str} {C : Addr} {e : Expr} {t : TA} {p pos pos' : Pos} (c : MkR X.prog X.w X.K X.mg X.base k x C) (hc : X.calm = true) (tk : Takes X W) (hr : Room j X.A) (hk : k + 1 ≤ j) (hg : Gl X x) (ha : PA X [e] t)
    (hdb : (x == ("__debug__" : Str)) = false := by decide) (he : starEach [e] X.env = (false, eval e X.env) :: starEach [] X.env := by rfl) : PS X (.Raise (some (.Call (.Name x p) [e] [] pos)) none pos') (fun _ σ H => tMkO C (spErrI X.K) [] t σ H fun cls d H' => W cls d σ H') := by
  obtain ⟨f, fd, ps, i, ty, F, b, hm⟩ := c.ex
  exact ps_raise hc tk (pmk_oex c.err.oex i ty F (hr.mono hk) b .nil pass0 hg hm ha hdb he rfl)
theorem err_raise {C : Addr} {y : V} {Q : XK} {H1 : Hp} {vs : List V} (e : vs = [y]) (T : OexC K C) (no : PySem.W.findIn K (.ref C) "value" = some none) (q : ∀ d, H1 d = none → Q (.ref C) (some d) (upd H1 d (.xd [(("value" : Str), y)]))) :
    vs.length ≤ 1000 ∧ ∀ a, H1 a = none → spErrI K (.ref a :: (vs ++ [])) (upd H1 a (exo a C none))
      (fun v H2 => v = .non ∧ ∃ (d : Addr) (fs : List (Str × V)), H2 a = some (exo a C (some d)) ∧ H2 d = some (exd d fs) ∧ H1 d = none ∧ Q (.ref C) (some d) (upd (L2.del H2 a) d (.xd fs))) (fun _ _ _ => False) := by
  subst e
  refine ⟨(by show 1 ≤ 1000; decide), fun a ha => ⟨a, C, y, rfl, T, upd_same, no, fun dx hdx ne => ⟨rfl, dx, _, upd_same, by rw [upd_ne ne]; exact upd_same, ?_, ?_⟩⟩⟩
  · rw [upd_ne ne] at hdx
    exact hdx
  · have hd : H1 dx = none := by
      rw [upd_ne ne] at hdx
      exact hdx
    have e : upd (L2.del (upd (upd (upd H1 a (exo a C none)) dx (exd dx [(("value" : Str), y)])) a (exo a C (some dx))) a) dx (.xd [(("value" : Str), y)]) = upd H1 dx (.xd [(("value" : Str), y)]) := by
      funext b
      by_cases h1 : b = dx
      · rw [h1, upd_same, upd_same]
      · rw [upd_ne h1, upd_ne h1]
        by_cases h2 : b = a
        · rw [h2, del_same, ha]
        · rw [del_ne h2, upd_ne h2, upd_ne h1, upd_ne h2]
    rw [e]
    exact q dx hd
end
end Fr

namespace Fr
open PySem PySem.Spec PyProof.Rows L2
/-- a system of the laws -/
structure Sys1 (d m : Int) (ts : List Tb) : Prop where
  d1 : 1 ≤ d
  d3 : d ≤ 3
  m2 : 2 ≤ m
  mx : m ≤ 1000000000
  l1 : 1 ≤ ts.length
  l6 : ts.length ≤ 6
  ok : OkT d ts
  sm : ∀ t ∈ ts, SmT t
theorem Sys1.sys {d m : Int} {ts : List Tb} (h : Sys1 d m ts) : OkSys d m ts := ⟨h.d1, h.d3, h.m2, h.l1, h.l6, h.ok⟩
theorem OkT.perm {d : Int} {ts us : List Tb} (p : ts.Perm us) (O : OkT d ts) : OkT d us := by
  refine ⟨fun t ht => O.names t (p.mem_iff.mpr ht), (p.map (·.n)).nodup_iff.mp O.nodup, ?_, fun t ht => O.reads t (p.mem_iff.mpr ht), fun t ht r hr => (p.map (·.n)).mem_iff.mp (O.here t (p.mem_iff.mpr ht) r hr)⟩
  rw [← (p.map fun t => t.rs.length).sum_nat]
  exact O.few
theorem Sys1.srt {d m : Int} {ts : List Tb} (h : Sys1 d m ts) : Sys1 d m (srt ts) := by
  have p := (srt_perm ts).symm
  have e := p.length_eq
  exact ⟨h.d1, h.d3, h.m2, h.mx, by have := h.l1; omega, by have := h.l6; omega, h.ok.perm p, fun t ht => h.sm t (p.mem_iff.mpr ht)⟩
def sysD (d m : Int) (ts : List Tb) : PyData := .list [.int d, .int m, .list (ts.map Tb.d), .list ((named ts).map nrD), .int (ts.length : Nat)]
def sysS (d m : Int) (ts : List Tb) : Str := (sysD d m ts).shown
theorem shw_rd {d : Int} {r : Rd1} (h : isRead d r = true) (hd : d ≤ 3) (f : -10 ≤ r.f ∧ r.f ≤ 10) (v : ∀ x ∈ r.v, -1000 ≤ x ∧ x ≤ 1000) : Shw r.d 3 174 := by
  unfold isRead at h
  rw [Bool.and_eq_true, Bool.and_eq_true] at h
  have hl : r.v.length ≤ 3 := by
    have := of_decide_eq_true h.2.1
    omega
  have hv : ShwA (r.v.map .int) 1 123 := (ShwA.map fun x hx => Shw.one (by have := v x hx; omega)).mono (Nat.le_refl _) (by omega)
  exact (Shw.tup (ShwA.c (Shw.str (k := 2) (name_ok h.1).1 (name_ok h.1).2) (ShwA.c (Shw.tup hv) (ShwA.c (Shw.one (k := 2) (i := r.f) (by omega)) ShwA.nil)))).mono (j := 3) (by decide) (by decide)
theorem shw_tb {d m : Int} {ts : List Tb} (h : Sys1 d m ts) {t : Tb} (ht : t ∈ ts) : Shw t.d 5 2200 := by
  have h12 := few_reads h.ok ht
  have hr : ShwA (t.rs.map Rd1.d) 3 2100 := (ShwA.map fun r hr => shw_rd (h.ok.reads t ht r hr) h.d3 ((h.sm t ht).f r hr) ((h.sm t ht).v r hr)).mono (Nat.le_refl _) (by omega)
  have hn := name_ok (h.ok.names t ht)
  have hc := (h.sm t ht).c
  exact (Shw.tup (ShwA.c (Shw.str (k := 4) hn.1 hn.2) (ShwA.c (Shw.one (i := t.c) (by omega)) (ShwA.c (Shw.list hr) ShwA.nil)))).mono (by decide) (by decide)
theorem shw_nr {x : Str × Nat} (h : isName x.1 = true) (hi : x.2 ≤ 1000) : Shw (nrD x) 1 50 := by
  have hn := name_ok h
  exact (Shw.tup (ShwA.c (Shw.str (k := 0) hn.1 hn.2) (ShwA.c (Shw.one (i := (x.2 : Nat)) (by omega)) ShwA.nil))).mono (by decide) (by decide)
theorem shw_named {d m : Int} {ts : List Tb} (h : Sys1 d m ts) {x : Str × Nat} (hx : x ∈ named ts) : Shw (nrD x) 1 50 := by
  obtain ⟨t, ht, e, hi⟩ := mem_named.mp (show (x.1, x.2) ∈ named ts from hx)
  have h12 := few_reads h.ok ht
  exact shw_nr (by rw [← e]; exact h.ok.names t ht) (by omega)
theorem sysD_ok {d m : Int} {ts : List Tb} (h : Sys1 d m ts) : Shw (sysD d m ts) 7 30000 := by
  have hts : ShwA (ts.map Tb.d) 5 13206 := (ShwA.map fun t ht => shw_tb h ht).mono (Nat.le_refl _) (by have := h.l6; omega)
  have hnl : (named ts).length ≤ 12 := by rw [named_len]; exact h.ok.few
  have hnm : ShwA ((named ts).map nrD) 5 700 := (ShwA.map (w := 50) fun x hx => shw_named h hx).mono (by decide) (by omega)
  have h1 := h.d1
  have h3 := h.d3
  have h2 := h.m2
  have hx := h.mx
  have h6 := h.l6
  exact (Shw.list (ShwA.c (Shw.one (k := 6) (i := d) (by omega)) (ShwA.c (Shw.one (i := m) (by omega)) (ShwA.c (Shw.list hts) (ShwA.c (Shw.list hnm) (ShwA.c (Shw.one (i := (ts.length : Nat)) (by omega)) ShwA.nil)))))).mono (by decide) (by decide)
end Fr

namespace Srt2
open PySem PyProof.Rows Srt SrtO
def lexT (p q : Str × Int) : Bool := if p.1 = q.1 then decide (p.2 < q.2) else decide (p.1.cps.toList < q.1.cps.toList)
theorem lex_ne {a b : Str} (h : ¬ a.cps.toList < b.cps.toList) (n : a ≠ b) : b.cps.toList < a.cps.toList := by
  apply Classical.byContradiction
  intro z
  exact n (Fr.str_antisymm (List.not_lt.mp z) (List.not_lt.mp h))
theorem lexT_no {p q : Str × Int} : lexT p q = false ↔ q.1.cps.toList < p.1.cps.toList ∨ (q.1 = p.1 ∧ q.2 ≤ p.2) := by
  unfold lexT
  by_cases e : p.1 = q.1
  · rw [if_pos e, decide_eq_false_iff_not]
    constructor
    · intro h
      exact .inr ⟨e.symm, by omega⟩
    · rintro (h | h)
      · rw [e] at h
        exact absurd h (List.lt_irrefl _)
      · omega
  · rw [if_neg e, decide_eq_false_iff_not]
    constructor
    · intro h
      exact .inl (lex_ne h e)
    · rintro (h | h)
      · exact List.not_lt.mpr (List.le_of_lt h)
      · exact absurd h.1.symm e
theorem swo_lexT {α : Type} (k : α → Str × Int) : Swo fun v u => lexT (k v) (k u) := by
  refine ⟨fun x y hxy => ?_, fun x y z hyx hzy => ?_⟩
  · refine lexT_no.mpr ?_
    have hxy : lexT (k x) (k y) = true := hxy
    unfold lexT at hxy
    by_cases e : (k x).1 = (k y).1
    · rw [if_pos e, decide_eq_true_eq] at hxy
      exact .inr ⟨e, by omega⟩
    · rw [if_neg e, decide_eq_true_eq] at hxy
      exact .inl hxy
  · have h1 := lexT_no.mp hyx
    have h2 := lexT_no.mp hzy
    refine lexT_no.mpr ?_
    rcases h1 with h1 | ⟨h1, h3⟩ <;> rcases h2 with h2 | ⟨h2, h4⟩
    · exact .inl (List.lt_trans h1 h2)
    · exact .inl (by rw [← h2]; exact h1)
    · exact .inl (by rw [h1]; exact h2)
    · exact .inr ⟨h1.trans h2, by omega⟩
section
variable {prog : Program} {w : World} {A : Around} {s : Shared} {E : Value → Shared → Prop}
def IsT2 (h : Heap) (v : Value) (p : Str × Int) : Prop := ∃ a o t u n, v = .ref a ∧ h.get? a = some o ∧ o.cls = .type "tuple" ∧ o.data = .seq #[.str p.1 t, .int p.2 u] n
theorem IsT2.keeps {h h' : Heap} {v : Value} {x : Str × Int} (p : IsT2 h v x) (k : ∀ b o, h.get? b = some o → o.cls = .type "tuple" → h'.get? b = some o) : IsT2 h' v x := by
  obtain ⟨a, o, t, u, n, e, g1, g2, g3⟩ := p
  exact ⟨a, o, t, u, n, e, k _ _ g1 g2, g2, g3⟩
theorem t2_cmp {vs : List Value} {k : Value → Str × Int} (hk : ∀ v ∈ vs, IsT2 s.heap v (k v)) : Cmp prog w A s (tuples' true) (fun p => p.1 ∈ vs) (lt2 fun v u => lexT (k v) (k u)) := by
  intro p q mp mq
  have ip := hk _ mp
  have iq := hk _ mq
  show wpAny (model prog w) A (keyLt' (tuples' true) p.1 q.1) (fun r s' => s' = s ∧ r = lexT (k p.1) (k q.1)) (fun _ _ => False) s
  unfold lexT
  generalize k p.1 = kp at ip ⊢
  generalize k q.1 = kq at iq ⊢
  obtain ⟨x, y⟩ := kp
  obtain ⟨x', y'⟩ := kq
  obtain ⟨a, o, t, u, n, ea, g1, g2, g3⟩ := ip
  obtain ⟨a', o', t', u', n', ea', g1', g2', g3'⟩ := iq
  rw [ea, ea']
  refine PySem.W.kat_lt g1 g3 g1' g3' ?_
  show PySem.W.KatLex prog w A true (decide (2 < 2)) _ [(.str x t, .str x' t'), (.int y u, .int y' u')] 0 s
  refine PySem.W.kat_cons (SeqAt.EqAt.str_str x t x' t' prog w _ _ ?_)
  refine PySem.W.kat_go (fun sa => ?_) (fun sa => ?_)
  · have ex : x = x' := by simpa using sa
    refine PySem.W.kat_yes (PySem.W.kat_cons (SeqAt.EqAt.int_int y u y' u' prog w _ _ ?_))
    refine PySem.W.kat_go (fun sb => ?_) (fun sb => ?_)
    · have ey : y = y' := by simpa using sb
      refine PySem.W.kat_yes (PySem.W.kat_nil ⟨rfl, ?_⟩)
      show false = (if x = x' then decide (y < y') else decide (x.cps.toList < x'.cps.toList))
      rw [if_pos ex, ey]
      exact (decide_eq_false (Int.lt_irrefl _)).symm
    · refine PySem.W.kat_no (PySem.W.kat_one _ _ (PyProof.Rows.lt_int ⟨rfl, ?_⟩))
      exact (if_pos ex).symm
  · have ex : ¬ x = x' := by simpa using sa
    exact PySem.W.kat_no (oneLt_str ⟨rfl, (if_neg ex).symm⟩)
theorem firsts2 {h : Heap} : ∀ {vs : List Value}, (∀ v ∈ vs, ∃ x, IsT2 h v x) → ∃ fs : List Value, PySem.W.KatTups h vs fs ∧ fs.length = vs.length ∧ ∀ f ∈ fs, ∃ x t, f = Value.str x t
  | [], _ => ⟨[], PySem.W.KatTups.nil, rfl, fun _ hm => by simp at hm⟩
  | v :: vs, hp => by
    obtain ⟨fs, f1, f2, f3⟩ := firsts2 (vs := vs) fun v' hm => hp v' (List.mem_cons_of_mem _ hm)
    obtain ⟨x, a, o, t, u, n, ea, g1, g2, g3⟩ := hp v (List.mem_cons_self ..)
    subst ea
    refine ⟨.str x.1 t :: fs, PySem.W.KatTups.cons g1 g2 g3 rfl f1, by rw [List.length_cons, List.length_cons, f2], fun f hm => ?_⟩
    rcases List.mem_cons.mp hm with rfl | hm
    · exact ⟨x.1, t, rfl⟩
    · exact f3 f hm
theorem t2_sortable {a : Addr} {vs : List Value} {k : Value → Str × Int} (many : 0 < vs.length) (hk : ∀ v ∈ vs, IsT2 s.heap v (k v)) (na : ∀ o, s.heap.get? a = some o → o.cls ≠ .type "tuple") : SortableO prog w A s a vs fun v u => lexT (k v) (k u) := by
  intro h' keep
  have hk' : ∀ v ∈ vs, IsT2 h' v (k v) := fun v hm => (hk v hm).keeps fun b o ho c => keep b o (fun z => by subst z; exact na o ho c) ho
  obtain ⟨fs, f1, f2, f3⟩ := firsts2 fun v hm => ⟨_, hk' v hm⟩
  refine ⟨tuples' true, fun Q E hq => ?_, t2_cmp hk'⟩
  refine PySem.W.kat_kind (T := .type "str") f1 (by omega) (fun f hm => ?_) (by rfl) ?_
  · obtain ⟨x, t, rfl⟩ := f3 f hm
    exact PySem.W.Looks.now
  · rw [show (Value.type "str" != Value.type "tuple") = true by first | decide +kernel | rfl | decide]
    exact hq
theorem sorted_t2 {l : Addr} {vs : List Value} {k : Value → Str × Int} {Q : Value → Shared → Prop} (hl : s.heap.IsList l vs.toArray) (short : vs.length ≤ sizeLine) (hk : ∀ v ∈ vs, IsT2 s.heap v (k v))
    (h : ∀ (h' : Heap) (d : Addr) (out : List Value), Srtd (fun v u => lexT (k v) (k u)) out → Stb (fun v u => lexT (k v) (k u)) out vs → (∀ b o, s.heap.get? b = some o → h'.get? b = some o) → s.heap.objs.size ≤ d → (∃ n, h'.get? d = some (seqObj "list" out.toArray n)) → Q (.ref d) { s with heap := h' }) :
    wpAny (model prog w) A (call (.builtin "sorted") [.ref l]) Q E s := by
  refine sorted_ord (swo_lexT k) hl short (fun m2 h₁ a ha stays => ?_) fun out so st => ?_
  · refine t2_sortable (s := { s with heap := h₁ }) (by omega) (fun v hm => (hk v hm).keeps fun b o ho _ => (stays b o ho).2) fun o ho => ?_
    have eo : some o = some (seqObj "list" vs.toArray 0) := ho.symm.trans ha
    cases eo
    intro c
    exact absurd (Value.type.inj c) (by decide)
  · exact h _ _ out so st (fun b o ho => sortedAll_old ho) (Nat.le_succ _) (sortedAll_at s.heap vs out.toArray)
end
end Srt2
namespace Fr
open PySem PySem.Spec PyProof.Rows L2
/-- sorted(xs), tuples (text, int): by the text, then by the int -/
def rSorted2 (K : PySem.W.Frag) : List V → Hp → VK → Prop := fun vs H Q => ∃ (a : Addr) (xs : List V) (k : V → Str × Int), vs = [V.ref a] ∧ SqL K H a xs ∧ (∀ x ∈ xs, ∃ t, x = V.ref t ∧ SqT K H t [.str (k x).1, .int (k x).2]) ∧
  ∀ ys p, SrtO.Srtd (fun x y => Srt2.lexT (k x) (k y)) ys → ys.Perm xs → H p = none → Q (.ref p) (upd H p (.lst ys))
section
variable {X : Cx}
theorem cr_sorted2 : CallR X (.builtin "sorted") (rSorted2 X.K) := by
  intro pins s σ H vs us Q I r h
  obtain ⟨a, xs, k, rfl, hs, hx, q⟩ := h
  obtain ⟨its, rv, hl, hz⟩ := I.list hs
  obtain ⟨u, rfl, ru⟩ := vals1 r
  obtain rfl : u = Value.ref a := ru
  obtain ⟨e1, e2⟩ := refs_back rv fun x m => by
    obtain ⟨t, et, _⟩ := hx x m
    exact ⟨t, et⟩
  refine Srt2.sorted_t2 (k := fun u => k (backV u)) hl.isList (by rw [← rv.length]; exact hz) (fun v hv => ?_) fun h' d out so st kp hd hn => ?_
  · obtain ⟨t, rfl⟩ := e2 v hv
    have hm : V.ref t ∈ xs := by rw [e1]; exact List.mem_map.mpr ⟨_, hv, rfl⟩
    obtain ⟨t', et, ht⟩ := hx _ hm
    cases et
    obtain ⟨its2, r2, ⟨o, ho, hc, n, hd⟩, _⟩ := I.tuple ht
    obtain ⟨u1, u2, rfl, ri, rj⟩ := vals2 r2
    obtain ⟨t1, rfl⟩ := ri
    obtain ⟨t2, rfl⟩ := rj
    exact ⟨t, o, t1, t2, n, rfl, ho, hc, hd⟩
  · have h3 : ∀ u ∈ out, ∃ a, u = Value.ref a := fun u hu => e2 u (st.perm.mem_iff.mp hu)
    obtain ⟨n, hn⟩ := hn
    have hp : (out.map backV).Perm xs := by
      rw [e1]
      exact st.perm.map backV
    refine ⟨.ref d, upd H d (.lst (out.map backV)), I.laid (t' := s.toks) kp hd ⟨?_, out, n, vals_back h3, hn⟩, rfl, q _ d (SrtO.srtd_map so) hp (I.hok.fresh hd)⟩
    rw [hp.length_eq]
    exact hz
end
/-- the named reads of sorted tables ascend -/
theorem named_srtd (ts : List Tb) (nd : (ts.map (·.n)).Nodup) : SrtO.Srtd Srt2.lexT ((named (srt ts)).map fun x => (x.1, (x.2 : Int))) := by
  have pw := srt_pw ts
  have nd2 : ((srt ts).map (·.n)).Nodup := ((srt_perm ts).map (·.n)).nodup_iff.mpr nd
  generalize srt ts = us at pw nd2
  unfold SrtO.Srtd
  rw [List.pairwise_map]
  unfold named
  induction us with
  | nil => exact .nil
  | cons t us ih =>
    rw [List.map_cons, List.pairwise_cons] at pw
    rw [List.map_cons, List.nodup_cons] at nd2
    rw [List.flatMap_cons, List.pairwise_append]
    refine ⟨?_, ih pw.2 nd2.2, fun a ha b hb => ?_⟩
    · unfold nam1
      rw [List.pairwise_map]
      refine List.pairwise_lt_range.imp fun h => ?_
      exact Srt2.lexT_no.mpr (.inr ⟨rfl, by show ((_ : Nat) : Int) ≤ ((_ : Nat) : Int); omega⟩)
    · unfold nam1 at ha
      obtain ⟨i, _, rfl⟩ := List.mem_map.mp ha
      obtain ⟨u, hu, hb⟩ := List.mem_flatMap.mp hb
      unfold nam1 at hb
      obtain ⟨j, _, rfl⟩ := List.mem_map.mp hb
      have hm : u.n ∈ us.map (·.n) := List.mem_map.mpr ⟨u, hu, rfl⟩
      refine Srt2.lexT_no.mpr (.inl ?_)
      refine Srt2.lex_ne (List.not_lt.mpr (pw.1 _ hm)) fun z => nd2.1 ?_
      have z : u.n = t.n := z
      rw [← z]
      exact hm
end Fr

namespace Fr
open PySem PySem.Spec PyProof.Rows L2
theorem vals_at : ∀ {xs : List V} {us : List Value}, xs.length = us.length → (∀ (j : Nat) (v : Value), us[j]? = some v → ∃ x, xs[j]? = some x ∧ RelV x v) → Vals xs us
  | [], [], _, _ => .nil
  | [], _ :: _, h, _ => by cases h
  | _ :: _, [], h, _ => by cases h
  | x :: xs, u :: us, h, g => by
    obtain ⟨y, e1, e2⟩ := g 0 u rfl
    cases e1
    refine .cons e2 (vals_at (by simpa using h) fun j v e => ?_)
    exact g (j + 1) v (by simpa using e)
/-- an expression, up to what holds behind it -/
def tCsqE (t : TE) : TE := fun σ H Q => ∃ N : V → Hp → Prop, (∀ v H, N v H → Q v H) ∧ t σ H N
theorem pe_csqE {X : Cx} {e : Expr} {t : TE} (h : PE X e t) : PE X e (tCsqE t) := ⟨fun pins s σ H Q I ⟨N, hN, q⟩ => thn (h.run pins s σ H _ I q) fun v s1 ⟨x, H1, I1, r, n⟩ => ⟨x, H1, I1, r, hN _ _ n⟩⟩
section
variable {X : Cx}
/-- isinstance of a thing of a known type -/
theorem call_isT : CallR X (.builtin "isinstance") (fun xs H Q => ∃ (x : V) (t : Value) (c : Addr) (b : Bool), xs = [x, .ref c] ∧ TyOf X.K H x t ∧ PySem.W.kitOne X.K t (.ref c) = some b ∧ Q (.bl b) H) := by
  intro pins s σ H xs us Q I r h
  obtain ⟨x, t, c, b, rfl, ty, e, q⟩ := h
  obtain ⟨u, v, rfl, ru, rv⟩ := vals2 r
  obtain rfl : v = Value.ref c := rv
  exact isinst_ok I ru ty e fun tk => ⟨.bl b, H, I.tok _, rfl, q⟩
/-- what == may stand beside -/
inductive Beside (H : Hp) : V → String → Prop
  | int (i : Int) : Beside H (.int i) "int"
  | str (x : Str) : Beside H (.str x) "str"
  | lst {a : Addr} {xs : List V} (e : H a = some (.lst xs)) : Beside H (.ref a) "list"
theorem Beside.ty {K : PySem.W.Frag} {H : Hp} {y : V} {t : String} (h : Beside H y t) : TyOf K H y (.type t) := by
  cases h with
  | int i => exact .int i
  | str x => exact .str x
  | lst e => exact .lst e
def rEqOut (K : PySem.W.Frag) (C : Addr) (sp : Sp) : R2 := fun x y H Q => ∃ (a dx : Addr) (fs : List (Str × V)) (t : String), x = .ref a ∧ H a = some (.ins C dx fs) ∧ Beside H y t ∧ PySem.W.notFirst K C (.type t) = true ∧ sp [.ref a, y] H (fun v H' => ∃ r, v = .bl r ∧ Q (.bl r) H') C8.E0
theorem op_eqOut {k j : Nat} {C : Addr} {sp : Sp} (c : EqM X.prog X.w X.K X.mg X.base k C sp) (hr : Room j X.A) (hk : k ≤ j) : OpR X (compareOp .Eq) (rEqOut X.K C sp) := by
  intro pins s σ H x y v u Q I rx ry h
  obtain ⟨a, dx, fs, t, rfl, ha, hb, nf, h⟩ := h
  cases (show v = Value.ref a from rx)
  obtain ⟨f, fd, ps, hc, hs, hf, F, hbd⟩ := c.ex
  obtain ⟨mA, J, _⟩ := ins_get I.hok ha
  obtain ⟨od, J, _⟩ := J.look
  obtain ⟨m, hF⟩ := I.fr
  have hu : X.A.units < cLine := (hr.mono hk).units0
  have lk : PySem.W.Looks (model X.prog X.w) s.heap (typeOf u) (.type t) := by
    cases hb with
    | int i => obtain ⟨tk, rfl⟩ := (show ∃ tk, u = Value.int i tk from ry); exact PySem.W.Looks.now
    | str z => obtain ⟨tk, rfl⟩ := (show ∃ tk, u = Value.str z tk from ry); exact PySem.W.Looks.now
    | @lst b xs e =>
      obtain rfl : u = Value.ref b := ry
      obtain ⟨_, _, n, _, h1⟩ := (show ObjOk X.prog X.w H s.heap b (.lst xs) from I.hok b _ e)
      exact PySem.W.kitAt_ty _ _ ⟨_, h1, rfl⟩
  refine PySem.W.cmp_K (op := .Eq) (tb := .type t) hu hF I.ok.mod.kin J lk nf hs hf ?_
  refine wpAny_mono (run_fn (us := [.ref a, u]) (vs := [.ref a, y]) F (hr.mono hk) hbd .nil pass0 I (.cons rfl (.cons ry .nil)) h) (fun r s' q => ?_) fun _ _ x => x
  obtain ⟨z, H', I', rz, t, rfl, q⟩ := q
  obtain rfl : r = Value.bool t := rz
  exact ⟨.bl t, H', I', rfl, q⟩
/-- list(text) -/
theorem call_listS (hcalm : X.calm = true) : CallR X (.type "list") (fun xs H Q => ∃ x : Str, xs = [.str x] ∧ x.length ≤ 1000 ∧ ∀ p, H p = none → Q (.ref p) (upd H p (.lst ((signs x).map V.str)))) := by
  intro pins s σ H xs us Q I r h
  obtain ⟨x, rfl, hl, q⟩ := h
  obtain ⟨u, rfl, t, rfl⟩ := vals1 r
  have hsz : x.cps.size ≤ sizeLine := Nat.le_trans hl (by decide)
  refine call_list_str (I.ok.hd hcalm) x t (hn := hsz) fun h' tk acc c' hk hS ha => ?_
  have hlen : (signs x).length = acc.toList.length := by
    rw [show (signs x).length = x.cps.size by simp [signs]]
    exact ha.1.symm
  have rv : Vals ((signs x).map V.str) acc.toList := by
    refine vals_at (by rw [List.length_map]; exact hlen) fun j v hv => ?_
    obtain ⟨c, u, hc, rfl⟩ := ha.2 j v (by simpa using hv)
    exact ⟨V.str ⟨#[c]⟩, by simp [signs, hc], u, rfl⟩
  exact ⟨.ref s.heap.objs.size, _, I.laid (t' := tk) hk (Nat.le_refl _) (show ObjOk X.prog X.w _ h' _ (.lst ((signs x).map V.str)) from ⟨by rw [List.length_map]; simp [signs]; exact hsz, acc.toList, c', rv, by simpa using hS⟩), rfl, q _ (I.hok.fresh (Nat.le_refl _))⟩
/-- dict(zip(a, b)) of lists, the first one's items keys -/
def tDctZip (K : PySem.W.Frag) (ta : TA) : TE := fun σ H Q => ta σ H fun vs H1 => ∃ (a b : Addr) (ks : List Key) (ys : List V), vs = [.ref a, .ref b] ∧ SqL K H1 a (ks.map kV) ∧ SqL K H1 b ys ∧ ∀ S, H1 S = none → Q (.ref S) (upd H1 S (.dK (mergeK [] (ks.zip ys))))
theorem zip_kv {P : Program} {w : World} : ∀ {ks : List Key} {ys : List V} {us vs : List Value}, Vals (ks.map kV) us → Vals ys vs → ∃ prs : List (Key × Value), KV (ks.zip ys) prs ∧ prs.length = min us.length vs.length ∧ ∀ (i : Nat) (key v : Value), us[i]? = some key ∧ vs[i]? = some v → ∃ k, prs[i]? = some (k, v) ∧ (mixKind P w).is k key = true
  | [], ys, us, vs, h1, h2 => by
    cases h1
    exact ⟨[], .nil, by simp, fun i key v e => by cases e.1⟩
  | k :: ks, [], us, vs, h1, h2 => by
    cases h2
    exact ⟨[], .nil, by simp, fun i key v e => by cases e.2⟩
  | k :: ks, y :: ys, _, _, h1, h2 => by
    cases h1 with
    | @cons _ u _ us g1 g2 =>
      cases h2 with
      | @cons _ v _ vs g3 g4 =>
        obtain ⟨prs, r, l, f⟩ := zip_kv (P := P) (w := w) g2 g4
        refine ⟨(k, v) :: prs, .cons ⟨rfl, g3⟩ r, by rw [List.length_cons, List.length_cons, List.length_cons, l]; omega, fun i key z e => ?_⟩
        cases i with
        | zero =>
          obtain ⟨e1, e2⟩ := e
          cases e1
          cases e2
          exact ⟨k, rfl, kV_is (P := P) (w := w) g1⟩
        | succ i =>
          obtain ⟨k', e1, e2⟩ := f i key z ⟨by simpa using e.1, by simpa using e.2⟩
          exact ⟨k', by simpa using e1, e2⟩
theorem pe_dictZip {e e2 : Expr} {ta : TA} {p p2 pos pos2 : Pos} (hc : X.calm = true) (hg : Gl X "dict") (hm : X.mg "dict" = none) (hg2 : Gl X "zip") (hm2 : X.mg "zip" = none) (ha : PA X [e, e2] ta)
    (hs : starEach [e, e2] X.env = (false, eval e X.env) :: starEach [e2] X.env := by rfl) (hpl : (backTo pos2 (starEach [e2] X.env)).any (·.1) = false := by rfl)
    (na : starEach [.Call (.Name "zip" p2) [e, e2] [] pos2] X.env = (false, eval (.Call (.Name "zip" p2) [e, e2] [] pos2) X.env) :: starEach [] X.env := by rfl) : PE X (.Call (.Name "dict" p) [.Call (.Name "zip" p2) [e, e2] [] pos2] [] pos) (tDctZip X.K ta) := by
  refine ⟨fun pins s σ H Q I h => ?_⟩
  refine Call_ (ld_blt I hg hm boot_dict (PyProof.Rows.callWith_type1 (args_cons ?_ na) na))
  refine Call_ (ld_blt I hg2 hm2 PyProof.Rows.boot_zip (PyProof.Rows.callWith_type1 (thn (ha.run pos2 pins s σ H _ I h) fun us s1 ⟨vs, H1, I1, r1, a, b, ks, ys, ex, hqx, hqy, q⟩ => ?_) hs hpl))
  subst ex
  obtain ⟨u, v, rfl, ru, rv'⟩ := vals2 r1
  cases ru
  cases rv'
  obtain ⟨its, rv, p1, hz1⟩ := I1.list hqx
  obtain ⟨its2, rv2, pp2, hz2⟩ := I1.list hqy
  have la : a < s1.heap.objs.size := p1.lt
  have lb : b < s1.heap.objs.size := pp2.lt
  refine call_zip_2 p1.isList pp2.isList fun h' hz hTI hTO h1 h2 hsz hk => args_nil ?_
  have D := PySem.W.ktu_apart s1.heap.objs.size a b la lb
  have hl1 : h'.IsList a its.toArray := p1.isList.at fun o e => hk _ o e
  have hl2 : h'.IsList b its2.toArray := pp2.isList.at fun o e => hk _ o e
  obtain ⟨prs, kv, lp, hp⟩ := zip_kv (P := X.prog) (w := X.w) rv rv2
  have lx := rv.length
  rw [List.length_map] at lx hz1
  have hmin : min its.toArray.size its2.toArray.size ≤ sizeLine := by
    rw [List.size_toArray, List.size_toArray]
    omega
  refine PySem.call_dict_pairs (s := { s1 with heap := h' }) (knd := mixKind X.prog X.w) (kvs := prs) (PairArg.zip _ _ _ _ _ a b D its.toArray its2.toArray) (I1.ok.hd hc) ⟨hz, hTI, ⟨_, _, hTO⟩, h1, h2, hl1, hl2⟩ ⟨by rw [lp, List.size_toArray, List.size_toArray], fun i key v e => hp i key v (by simpa using e)⟩ hmin fun h2' tk hd hkp => ?_
  have k2 : ∀ b o, s1.heap.get? b = some o → h2'.get? b = some o := fun b o e => by
    have hlt : b < s1.heap.objs.size := Heap.lt_size e
    have ne : ∀ n : Nat, b ≠ s1.heap.objs.size + n := fun n => Nat.ne_of_lt (Nat.lt_of_lt_of_le hlt (Nat.le_add_right _ _))
    refine hkp b o (fun z => ?_) (hk b o e)
    simp only [List.mem_cons, List.not_mem_nil, or_false] at z
    rcases z with z | z | z | z
    · exact ne 4 z
    · exact ne 3 z
    · exact ne 0 z
    · exact ne 1 z
  have big : s1.heap.objs.size ≤ h'.objs.size := by rw [hsz]; exact Nat.le_add_right _ _
  have hm' : (h'.objs.size == sysModules) = false := beq_eq_false_iff_ne.mpr (Nat.ne_of_gt (Nat.lt_of_lt_of_le I1.big big))
  have hlen : (mergeK [] (ks.zip ys)).length ≤ sizeLine := by
    refine Nat.le_trans (length_mergeK (ks.zip ys) []) ?_
    rw [List.length_nil, Nat.zero_add, List.length_zip]
    exact Nat.le_trans (Nat.min_le_left _ _) hz1
  exact ⟨.ref h'.objs.size, upd H1 h'.objs.size (.dK (mergeK [] (ks.zip ys))), I1.laid (t' := tk) k2 big (show ObjOk X.prog X.w _ _ _ (.dK (mergeK [] (ks.zip ys))) from ⟨hlen, hm', merged [] prs, KV.merge kv .nil, hd⟩), rfl, q _ (I1.hok.fresh big)⟩
/-- a, b, c = x, y, z with plain local names -/
def tPar3 (i j k : Nat) (ta : TA) : TS := fun D σ H => ta σ H fun vs H1 => ∃ u v w, vs = [u, v, w] ∧ D.nx (((σ.set i (some u)).set j (some v)).set k (some w)) H1
theorem ps_par3 {i j k : Nat} {x y z : Str} {a b c : Expr} {ta : TA} {px py pz pt pos : Pos} {kt k2 pt2} (hc : X.calm = true) (hN : X.N.Nodup) (hi : X.N[i]? = some x) (hj : X.N[j]? = some y) (hk : X.N[k]? = some z) (hij : i ≠ j) (hik : i ≠ k) (hjk : j ≠ k)
    (hx : X.env.scope.names.lookup x = some .local) (hy : X.env.scope.names.lookup y = some .local) (hz : X.env.scope.names.lookup z = some .local) (ha : PA X [a, b, c] ta)
    (hw : swappedStores [.Tuple [.Name x px, .Name y py, .Name z pz] kt pt] (.Tuple [a, b, c] k2 pt2) X.env = pure (some [x, y, z]))
    (hs : swapsWithSole [.Tuple [.Name x px, .Name y py, .Name z pz] kt pt] (.Tuple [a, b, c] k2 pt2) pos.line X.env = pure false := by rfl) :
    PS X (.Assign [.Tuple [.Name x px, .Name y py, .Name z pz] kt pt] (.Tuple [a, b, c] k2 pt2) pos) (tPar3 i j k ta) := by
  refine ⟨fun pins s σ H D I h => ?_⟩
  rw [exec_Assign_arm]
  refine wpAny_bind (wpAny_standAt ?_)
  rw [hs]
  refine wpAny_bind (wpAny_pure ?_)
  rw [if_neg (by decide)]
  refine wpAny_bind (Tuple_ (thn (ha.run _ pins s σ H _ I h) fun us s1 ⟨vs, H1, I1, r1, q1⟩ => ?_))
  obtain ⟨v1, v2, v3, rfl, q1⟩ := q1
  obtain ⟨u1, u2, u3, rfl, r1, r2, r3⟩ : ∃ u1 u2 u3, us = [u1, u2, u3] ∧ RelV v1 u1 ∧ RelV v2 u2 ∧ RelV v3 u3 := by
    cases r1 with
    | cons g1 g =>
      obtain ⟨_, _, rfl, g2, g3⟩ := vals2 g
      exact ⟨_, _, _, rfl, g1, g2, g3⟩
  refine wpAny_newObj_type ?_ (by show 3 ≤ sizeLine; decide)
  have I2 : Inv X pins σ H1 { s1 with heap := s1.heap.push { cls := .type "tuple", data := .seq [u1, u2, u3].toArray } } := I1.kept (t' := s1.toks) fun b o e => Heap.get?_push_of_some _ e
  rw [hw]
  refine wpAny_bind (wpAny_pure ?_)
  show wpAny (model X.prog X.w) X.A (do rule "assign.swapped-stores"; let items ← unpackItems (.ref s1.heap.objs.size) 3 none; assignInOrder [fun v => bindName X.env z v, fun v => bindName X.env y v, fun v => bindName X.env x v] items.reverse; pure Flow.next) _ _ _
  refine wpAny_bind (wpAny_rule (wpAny_bind (unpackItems_tuple (items := #[u1, u2, u3]) (I.ok.hd hc) (IsTup.new s1.heap _) fun h' hx' => ?_)))
  have I3 := I2.kept (h' := h') (t' := s1.toks) fun b o e => hx' b o (Nat.ne_of_lt (Heap.lt_size e)) e
  show wpAny _ _ (assignInOrder [fun v => bindName X.env z v, fun v => bindName X.env y v, fun v => bindName X.env x v] [u3, u2, u1] >>= fun _ => pure Flow.next) _ _ _
  refine wpAny_bind (assignInOrder_cons (wpAny_bindName (store_ok I3 hN hk (.inl hz) r3 (fun s2 I4 => ?_) (.inr hz))))
  refine assignInOrder_cons (wpAny_bindName (store_ok I4 hN hj (.inl hy) r2 (fun s3 I5 => ?_) (.inr hy)))
  refine assignInOrder_cons (wpAny_bindName (store_ok I5 hN hi (.inl hx) r1 (fun s4 I6 => assignInOrder_nil (wpAny_pure ?_)) (.inr hx)))
  rw [List.set_comm _ _ (Ne.symm hij), List.set_comm _ _ (Ne.symm hik), List.set_comm _ _ (Ne.symm hjk)] at I6
  exact ⟨_, H1, I6, q1⟩
/-- t * 1: the same tuple -/
def rRepT1 (K : PySem.W.Frag) : R2 := fun x y H Q => ∃ l xs, x = .ref l ∧ y = .int 1 ∧ SqT K H l xs ∧ Q (.ref l) H
theorem tuple_mul1 (l : Addr) (items : Array Value) (n : Nat) (dd : Option Addr) (sl : Array (Option Value)) (u : Tok) :
    Meets (Builtin.«tuple.__mul__» ⟨[.ref l, .int 1 u], []⟩) (fun _ R s => s.heap.get? l = some { cls := .type "tuple", dict := dd, data := .seq items n, slots := sl } ∧ R (.ok (.ret (Value.ref l))) s) :=
  .of_wp fun prog w A R s h => by
    obtain ⟨hp, g, d, tk, os⟩ := s
    obtain ⟨hl, h⟩ := h
    have f1 := AutoSeq1.idx_int
    have c1 : (items.isEmpty || (1 : Int) == 1) = true := by rw [show ((1 : Int) == 1) = true from rfl, Bool.or_true]
    wp_walk using wpAny_loadPart' hl
    repeat (first
      | (refine wpAny_ite_true (decide_eq_true (by rw [c1])) ?_; wp_walk using wpAny_loadPart' hl)
      | (refine wpAny_ite_true (by rw [c1]) ?_; wp_walk using wpAny_loadPart' hl))
    all_goals first | exact ⟨_, rfl, h⟩ | exact h | skip
theorem op_repT1 : OpR X (binaryOp .Mult) (rRepT1 X.K) := by
  intro pins s σ H x y v u Q I rx ry h
  obtain ⟨l, xs, rfl, rfl, hT, q⟩ := h
  cases rx
  obtain ⟨t, rfl⟩ := ry
  obtain ⟨its, r, ⟨⟨cls, dd, data, sl⟩, ho, hc, n, hd⟩, hs⟩ := I.tuple hT
  simp only at hc hd
  subst hc hd
  exact wpAny_binaryOp_repeat_ref (T := "tuple") (U := "int") (by decide) ⟨_, ho, rfl⟩ (fun s' => typeIs_int s' 1 t) noFill_tuple_mul F.fills_int_mul F.slot_int_rmul repeat_tuple F.slot_int_index.lookup
    (call_meets F.slot_int_rmul (typeIs_int s 1 t) F.entry_int_rmul (F.args_int_rmul_2 _ _) (int_rmul_tuple 1 t l its.toArray n dd sl)
      ⟨ho, rfl, ⟨_, ho, rfl⟩, call_meets F.slot_tuple_mul ⟨_, ho, rfl⟩ F.entry_tuple_mul (F.args_tuple_mul_2 _ _) (tuple_mul1 l its.toArray n dd sl t) ⟨ho, .ref l, H, I, rfl, q⟩⟩)
/-- a tuple of one item times k, k from 1 on -/
def rRepU (K : PySem.W.Frag) : R2 := fun x y H Q => ∃ l k xs, x = .ref l ∧ y = .int k ∧ SqT K H l xs ∧ xs ≠ [] ∧ 1 ≤ k ∧ k ≤ 1000 ∧ xs.length ≤ 1000 ∧ (k = 1 → Q (.ref l) H) ∧ (2 ≤ k → ∀ p, H p = none → Q (.ref p) (upd H p (.tup (List.replicate k.toNat xs).flatten)))
theorem op_repU : OpR X (binaryOp .Mult) (rRepU X.K) := by
  intro pins s σ H x y v u Q I rx ry h
  obtain ⟨l, k, xs, rfl, rfl, hT, ne, k1, k2, sz, q1, q2⟩ := h
  by_cases e : k = 1
  · subst e
    exact op_repT1 pins s σ H _ _ v u Q I rx ry ⟨l, xs, rfl, rfl, hT, q1 rfl⟩
  · exact op_repT pins s σ H _ _ v u Q I rx ry ⟨l, k, xs, rfl, rfl, hT, ne, by omega, k2, sz, q2 (by omega)⟩
end
end Fr

namespace Fr
open PySem PySem.Spec PyProof.Rows L2 HotX
section
variable {prog : Program} {w : World} {A : Around} {E : Value → Shared → Prop} {s : Shared}
theorem list_end_hot {it l x1 : Addr} {i : Nat} {items} {Q : Option Value → Shared → Prop} (hot : HotAt A x1 s.heap) (nx : x1 ≠ it) (hit : s.heap.IsListIter it l i) (hl : s.heap.IsList l items) (hx : items[i]? = none)
    (hQ : ∀ h', Heap.ExtBut it s.heap h' → Q none { s with heap := h' }) : wpAny (model prog w) A (pyNext (.ref it)) Q E s := by
  obtain ⟨hh, o1, vs1, h1, d1, c1⟩ := hot
  obtain ⟨io, hio, _, dio⟩ := id hit
  obtain ⟨lo, hlo, _, _, dlo⟩ := hl
  unfold pyNext
  refine wpAny_bind (wpAny_attempt (wpAny_callSpecial?_slot (name := Str.ofString "__next__") hit.typeIs slot_listiter_next (wpAny_call_entry slot_listiter_next hit.typeIs entry_listiter_next ?_ (args_listiter_next _))))
  show wpAny _ _ (field (.ref it) 0 >>= _) _ _ s
  refine wpAny_bind (wpAny_field hio dio (x := .ref l) rfl ?_)
  show wpAny _ _ (if (Value.ref l == Value.none) = true then _ else _) _ _ s
  rw [if_neg (fun z => by cases z)]
  show wpAny _ _ (field (.ref it) 1 >>= _) _ _ s
  refine wpAny_bind (wpAny_field hio dio (x := .int i 0) rfl ?_)
  show wpAny _ _ (seqItems? (.ref l) >>= _) _ _ s
  refine wpAny_bind (wpAny_seqItems hlo dlo ?_)
  simp only [Int.toNat_natCast, hx]
  have k1 : (s.heap.update it (Obj.mapFields (·.setIfInBounds 0 Value.none))).get? x1 = some o1 := (Heap.get?_update_other _ _ (Ne.symm nx)).trans h1
  refine wpAny_bind (wpAny_rule (wpAny_bind (wpAny_setField hio dio (by simp) ?_)))
  show wpAny _ _ (newExc (.type "StopIteration") [] >>= _) _ _ _
  refine wpAny_bind ?_
  simp only [newExc, newTuple]
  refine wpAny_bind (wpAny_newObj_type ?_ (by size_fits))
  refine wpAny_bind (m := firstArgMember _ _) (wpAny_of_eq (a := Value.none) (by first | rfl | (simp only [firstArgMember]; rfl)) ?_)
  refine wpAny_newObj_type ?_ (by size_fits)
  refine raiseNew_hot ⟨hh, o1, vs1, Heap.get?_push_of_some _ (Heap.get?_push_of_some _ k1), d1, c1⟩ (Nat.ne_of_lt (Heap.lt_size (Heap.get?_push_of_some _ k1))) (Heap.get?_push_size _ rfl) rfl (by first | (simp; done) | (simp; omega) | (simp only [Array.size_append]; simp; omega)) ?_
  refine wpAny_bind (wpAny_isInstance (T := "StopIteration") (b := true) ⟨_, Heap.get?_update_self _ (Heap.get?_push_size _ rfl) rfl, rfl⟩ isSubtype_stop ?_)
  refine wpAny_pure (hQ _ fun b o hb e => ?_)
  have k2 : (s.heap.update it (Obj.mapFields (·.setIfInBounds 0 Value.none))).get? b = some o := (Heap.get?_update_other _ _ (Ne.symm hb)).trans e
  rw [Heap.get?_update_other _ _ (Nat.ne_of_gt (Heap.lt_size (Heap.get?_push_of_some _ k2)))]
  exact Heap.get?_push_of_some _ (Heap.get?_push_of_some _ k2)
theorem tup_end_hot {it l x1 : Addr} {i : Nat} {items} {Q : Option Value → Shared → Prop} (hot : HotAt A x1 s.heap) (nx : x1 ≠ it) (hit : IsTupIter s.heap it l i) (hl : IsTup s.heap l items) (hx : items[i]? = none)
    (hQ : ∀ h', Heap.ExtBut it s.heap h' → Q none { s with heap := h' }) : wpAny (model prog w) A (pyNext (.ref it)) Q E s := by
  obtain ⟨hh, o1, vs1, h1, d1, c1⟩ := hot
  obtain ⟨io, hio, _, dio⟩ := id hit
  obtain ⟨lo, hlo, _, _, dlo⟩ := hl
  unfold pyNext
  refine wpAny_bind (wpAny_attempt (wpAny_callSpecial?_slot (name := Str.ofString "__next__") hit.typeIs slot_tupleiter_next (wpAny_call_entry slot_tupleiter_next hit.typeIs entry_tupleiter_next ?_ (args_tupleiter_next _))))
  show wpAny _ _ (field (.ref it) 0 >>= _) _ _ s
  refine wpAny_bind (wpAny_field hio dio (x := .ref l) rfl ?_)
  show wpAny _ _ (if (Value.ref l == Value.none) = true then _ else _) _ _ s
  rw [if_neg (fun z => by cases z)]
  show wpAny _ _ (field (.ref it) 1 >>= _) _ _ s
  refine wpAny_bind (wpAny_field hio dio (x := .int i 0) rfl ?_)
  show wpAny _ _ (seqItems? (.ref l) >>= _) _ _ s
  refine wpAny_bind (wpAny_seqItems hlo dlo ?_)
  simp only [Int.toNat_natCast, hx]
  have k1 : (s.heap.update it (Obj.mapFields (·.setIfInBounds 0 Value.none))).get? x1 = some o1 := (Heap.get?_update_other _ _ (Ne.symm nx)).trans h1
  refine wpAny_bind (wpAny_rule (wpAny_bind (wpAny_setField hio dio (by simp) ?_)))
  show wpAny _ _ (newExc (.type "StopIteration") [] >>= _) _ _ _
  refine wpAny_bind ?_
  simp only [newExc, newTuple]
  refine wpAny_bind (wpAny_newObj_type ?_ (by size_fits))
  refine wpAny_bind (m := firstArgMember _ _) (wpAny_of_eq (a := Value.none) (by first | rfl | (simp only [firstArgMember]; rfl)) ?_)
  refine wpAny_newObj_type ?_ (by size_fits)
  refine raiseNew_hot ⟨hh, o1, vs1, Heap.get?_push_of_some _ (Heap.get?_push_of_some _ k1), d1, c1⟩ (Nat.ne_of_lt (Heap.lt_size (Heap.get?_push_of_some _ k1))) (Heap.get?_push_size _ rfl) rfl (by first | (simp; done) | (simp; omega) | (simp only [Array.size_append]; simp; omega)) ?_
  refine wpAny_bind (wpAny_isInstance (T := "StopIteration") (b := true) ⟨_, Heap.get?_update_self _ (Heap.get?_push_size _ rfl) rfl, rfl⟩ isSubtype_stop ?_)
  refine wpAny_pure (hQ _ fun b o hb e => ?_)
  have k2 : (s.heap.update it (Obj.mapFields (·.setIfInBounds 0 Value.none))).get? b = some o := (Heap.get?_update_other _ _ (Ne.symm hb)).trans e
  rw [Heap.get?_update_other _ _ (Nat.ne_of_gt (Heap.lt_size (Heap.get?_push_of_some _ k2)))]
  exact Heap.get?_push_of_some _ (Heap.get?_push_of_some _ k2)
theorem unpackItems_hot {t x1 : Addr} {items : Array Value} {Q : List Value → Shared → Prop} (hot : HotAt A x1 s.heap) (ht : IsTup s.heap t items)
    (hQ : ∀ h', Heap.ExtBut s.heap.objs.size s.heap h' → Q items.toList { s with heap := h' }) : wpAny (model prog w) A (unpackItems (.ref t) items.size none) Q E s := by
  have tn : t ≠ s.heap.objs.size := by
    obtain ⟨o, e, _⟩ := ht
    exact Nat.ne_of_lt (Heap.lt_size e)
  have xn : x1 ≠ s.heap.objs.size := by
    obtain ⟨_, o, _, e, _⟩ := hot
    exact Nat.ne_of_lt (Heap.lt_size e)
  unfold unpackItems notIterableAtAll
  refine wpAny_bind (wpAny_bind (wpAny_specialOf ht.typeIs slot_tuple_iter.lookup (wpAny_pure ?_)))
  simp only [Bool.false_eq_true, if_false]
  refine wpAny_bind (wpAny_holding (iter_tuple ht (wpAny_bind (wpAny_holding (draw_tuple tn items.size 0 _ _ ⟨_, Heap.get?_push_size _ rfl, rfl, rfl⟩ (ht.push _) (by omega) fun g1 it1 sb1 => ?_)))))
  rw [List.drop_zero, List.take_of_length_le (by simp), if_neg (by simp)]
  have t1 : IsTup g1 t items := (ht.push _).extBut sb1.extBut tn
  have hot1 : HotAt A x1 g1 := by
    obtain ⟨hh, o, vs, e, d, c⟩ := hot
    exact ⟨hh, o, vs, sb1.extBut _ _ xn (Heap.get?_push_of_some _ e), d, c⟩
  refine wpAny_bind (wpAny_holding (tup_end_hot (s := { s with heap := g1 }) hot1 xn it1 t1 (by simp) fun g2 e2 => ?_))
  simp only [Option.isSome_none, Bool.false_eq_true, if_false]
  exact wpAny_pure (hQ g2 fun b o hb e => e2 b o hb (sb1.extBut b o hb (Heap.get?_push_of_some _ e)))
end
end Fr

namespace Fr
open PySem PySem.Spec PyProof.Rows L2 HotX L2H
section
variable {X : Cx} {pins : List (Addr × PySem.Obj)} {σ : L2.St} {H : Hp} {s : Shared} {tg : Expr}
theorem pg_tupH {es : List Expr} {k n : Nat} {t : TGs} {pos : Pos} (hot : HotC X) (h : PGs X es t) (hn : (assignEach es X.env).length = n := by rfl) (hst : (assignEach es X.env).findIdx? (·.1) = none := by rfl) : PG X (.Tuple es k pos) (gTup X.K n t) := by
  constructor
  rintro pins s σ H v u Q I r ⟨a, xs, rfl, tq, len, q⟩
  obtain rfl : u = Value.ref a := r
  obtain ⟨its, rv, it, _⟩ := I.tuple tq
  obtain ⟨x1, ha⟩ := hot.at I
  rw [assign_Tuple]
  refine wpAny_bind (wpAny_standAt ?_)
  unfold unpack
  rw [show (assignEach es X.env).length = its.toArray.size by simp [hn, ← len, rv.length], hst]
  refine wpAny_bind (wpAny_holding (unpackItems_hot ha it fun g eg => ?_))
  exact h.run pins _ σ H xs _ Q (I.kept (t' := s.toks) fun b o e => eg b o (Nat.ne_of_lt (Heap.lt_size e)) e) (by simpa using rv) q
/-- a list, walked where an exception is handled -/
theorem turn_listH {P : Program} {w : World} {K : PySem.W.Frag} (a it : Addr) : TurnH P w K tg (Itl K a) [it] it (fun i h => h.IsListIter it a i) where
  mem := List.mem_singleton.mpr rfl
  obj i h st b hb := by
    obtain rfl := List.mem_singleton.mp hb
    obtain ⟨o, e, _, d⟩ := st
    exact ⟨o, e, fun v z => by rw [d] at z; cases z⟩
  keep i h h' st k := st.at fun o e => k it (List.mem_singleton.mpr rfl) o e
  item := by
    rintro X rfl rfl rfl hot i pins s σ H E I hf st ⟨xs, x, hq, hx⟩
    obtain ⟨its, rv, p, _⟩ := I.list hq
    obtain ⟨u, hu, ru⟩ := rv.get hx
    obtain ⟨f0, f1, f2, f3, f4, f5⟩ := hf it (List.mem_singleton.mpr rfl)
    refine wpAny_pyNext_list_item st p.isList (x := u) (by simpa using hu) fun g st1 sb => ?_
    have I1 : Inv X pins σ H { s with heap := g } := I.turned (t' := s.toks) (fun b o hb e => (sb.2 b hb).trans e) f0 f1 f3 f4 f5
    obtain ⟨o, e, c, d⟩ := id st1
    exact ⟨u, rfl, go_of (s := { s with heap := g }) e c d (by decide) ⟨x, H, I1, ru, ⟨rfl, fun ys hy => by rw [I.list_inj hy hq]; exact hx⟩, st1, fun b hb => (hf b hb).1⟩⟩
  done := by
    rintro X rfl rfl rfl hot i pins s σ H E I hf st ⟨xs, hq, hx⟩
    obtain ⟨its, rv, p, _⟩ := I.list hq
    obtain ⟨f0, f1, f2, f3, f4, f5⟩ := hf it (List.mem_singleton.mpr rfl)
    obtain ⟨q, ⟨hh, vs, dv, cv⟩, hq1⟩ := hot
    have lv := rv.length
    exact list_end_hot ⟨hh, q.2, vs, (I.pin q (List.mem_append_left _ hq1)).1, dv, cv⟩ (f5 q (List.mem_append_left _ hq1)) st p.isList (by simp; omega) fun g eb => ⟨rfl, I.turned (t' := s.toks) (fun b o hb e => eb b o hb e) f0 f1 f3 f4 f5⟩
  self _ _ _ _ _ st h := wpAny_pyIter_listiter st h
theorem pi_listH {l : Expr} {tl : TE} (hl : PE X l tl) : PIH X tg l (iList X.K tl) := by
  constructor
  intro pins s σ H R I h
  refine thn (hl.run pins s σ H _ I h) ?_
  rintro v s1 ⟨x, H1, I1, r1, a, rfl, ⟨xs, hq⟩, q⟩
  obtain rfl : v = Value.ref a := r1
  obtain ⟨its, rv, p, _⟩ := I1.list hq
  refine wpAny_pyIter_list p.isList ⟨s1.heap.objs.size, [s1.heap.objs.size], _, _, H1, rfl, I1.kept (t' := s1.toks) fun b o e => Heap.get?_push_of_some _ e, turn_listH a _, ⟨_, Heap.get?_push_size _ rfl, rfl, rfl⟩, fun b hb => ?_, q⟩
  obtain rfl := List.mem_singleton.mp hb
  exact I1.fpOk (Nat.le_refl _) (I1.hok.fresh (Nat.le_refl _))
end
/-- a block where p's object is the exception that is handled -/
abbrev blkH (X : Cx) (p : Addr × PySem.Obj) (s : Shared) (H : Hp) (scope : Scope) (cenv : Env) (fp : List Addr) : Cx := { X.blk s H scope cenv fp with pn := [p] }
section
variable {X : Cx} {pins : List (Addr × PySem.Obj)} {σ : L2.St} {H : Hp} {s : Shared}
theorem blkH_start {scope : Scope} {own : List (Str × Nat)} {fp : List Addr} {p : Addr × PySem.Obj} (hp : p ∈ X.pn) (I : Inv X pins σ H s) (ok : BlkOk X.N X.env.scope scope own) (hN : X.N.Nodup) (hfp : ∀ b ∈ fp, FpOk X pins H b ∧ b < s.heap.objs.size) :
    Inv (blkH X p s H scope (compEnvC scope (cellsFrom (s.heap.objs.size + 1) scope.names (cloFrom X.env.cells scope.names [])) s.heap.objs.size X.env) fp) [] (wipe σ (own.map (·.2))) H { s with heap := pushCells (s.heap.push { cls := .type "dict", data := .dict #[] }) scope.names } := by
  have J := block_start I ok hN hfp
  obtain ⟨p1, p2, p3, p4, p5⟩ := I.pin p (List.mem_append_left _ hp)
  refine ⟨⟨J.ok.mod, J.ok.kind, J.ok.glob, J.ok.blt, J.ok.above, J.ok.inj, J.ok.has, J.ok.cab, J.ok.hd, J.ok.frames, J.ok.stk, J.ok.exf, J.ok.bs, J.ok.bsz, J.ok.noex, J.ok.exfs, J.ok.funs, J.ok.frf⟩, J.os, J.bare, J.base, J.loc, J.cell, J.free, J.freeC, fun q hq => ?_, J.hok, J.len⟩
  obtain rfl : q = p := by simpa using hq
  exact ⟨pushCells_keeps _ _ _ _ (Heap.get?_push_of_some _ p1), p2, Nat.ne_of_lt (Heap.lt_size p1), fun hm => (List.mem_cons.mp (I.stkSub q.1 hm)).elim p3 p4, p5⟩
end
end Fr

namespace Fr
open PySem PySem.Spec PyProof.Rows L2 HotX L2H
section
variable {X : Cx} {tg : Expr}
theorem lc_coreH {pins : List (Addr × PySem.Obj)} {s : Shared} {σ : L2.St} {H : Hp} {Q : VK} {elt iter : Expr} {ifs : List Expr} {scope : Scope} {own : List (Str × Nat)} {pos pos' : Pos} {wi : TI} {g : TG} {tt : TT} {te : TE} {use : Option (Value → Sem Unit)} {Qf : Value → Shared → Prop}
    (hot : HotC X) (hN : X.N.Nodup) (I : Inv X pins σ H s) (hi : PIH X tg iter wi) (ok : BlkOk X.N X.env.scope scope own)
    (hg : ∀ (p : Addr × PySem.Obj) (s : Shared) (H : Hp) (C : Addr) (cl : List (Str × Addr)) (fp : List Addr), HotC (blkH X p s H scope (compEnvC scope cl C X.env) fp) → PG (blkH X p s H scope (compEnvC scope cl C X.env) fp) tg g)
    (ht : ∀ (p : Addr × PySem.Obj) (s : Shared) (H : Hp) (C : Addr) (cl : List (Str × Addr)) (fp : List Addr), PTs (blkH X p s H scope (compEnvC scope cl C X.env) fp) ifs tt)
    (he : ∀ (p : Addr × PySem.Obj) (s : Shared) (H : Hp) (C : Addr) (cl : List (Str × Addr)) (fp : List Addr), PE (blkH X p s H scope (compEnvC scope cl C X.env) fp) elt te) (hs : ∀ x, foldedSetIterable iter X.env x = pure x)
    (h : tLc wi g tt te (own.map (·.2)) σ H Q)
    (fin : ∀ D C s' m H', Inv X pins σ H' s' → Q (.ref D) H' → s'.heap.Ns C m → FpOk X pins H' C → compPost (model X.prog X.w) X.A X.xe use Qf (.ref D) C (.ok .next) s') :
    wpAny (model X.prog X.w) X.A (comprehension (.ListComp elt [⟨tg, iter, ifs, 0⟩] scope pos) scope X.env pos' (newList []) false (eval iter X.env) use) Qf X.xe s := by
  obtain ⟨p, h1, hp⟩ := hot
  have free : ∀ y ∈ scope.names, y.2 = .free → ∃ c, X.env.cells.lookup y.1 = some c := fun y hy e => I.ok.has _ (ok.free y hy e)
  refine wpAny_comprehension_free (use := use) rfl hs (closure_ok free) ok.kind (fun y hy e => by rw [ok.uniq y hy, e]) (thn (hi.run pins s σ H _ I h) fun xv s1 hx => thn hx ?_)
  rintro _ s2 ⟨it, fp, tn, J, H2, rfl, I2, T, st2, f2, q⟩
  refine wpAny_newObj_type (newEnv_comp ?_) (by show 0 ≤ sizeLine; decide)
  obtain ⟨D, hD⟩ : ∃ D, D = s2.heap.objs.size := ⟨_, rfl⟩
  rw [← hD]
  have dn : H2 D = none := I2.hok.fresh (Nat.le_of_eq hD.symm)
  obtain ⟨W, ⟨m0, w0⟩, turn⟩ := q D dn
  -- with the new list
  generalize hs3 : ({ s2 with heap := s2.heap.push { cls := .type "list", data := .seq ([] : List Value).toArray } } : Shared) = s3
  have h3 : s3.heap = s2.heap.push { cls := .type "list", data := .seq ([] : List Value).toArray } := by rw [← hs3]
  have I3 : Inv X pins σ (upd H2 D (.lst [])) s3 := by
    rw [← hs3]
    refine I2.laid (t' := s2.toks) (fun b o e => Heap.get?_push_of_some _ e) (Nat.le_of_eq hD.symm) ⟨Nat.zero_le _, [], 0, .nil, ?_⟩
    rw [hD]
    exact Heap.get?_push_size _ rfl
  have f3 : ∀ b ∈ fp, FpOk X pins (upd H2 D (.lst [])) b ∧ b < s3.heap.objs.size := by
    intro b hb
    obtain ⟨o, e, _⟩ := T.obj _ _ st2 b hb
    have lt := Heap.lt_size e
    refine ⟨⟨?_, (f2 b hb).2⟩, by rw [h3, Heap.size_push]; exact Nat.lt_succ_of_lt lt⟩
    rw [upd_ne (by rw [hD]; exact Nat.ne_of_lt lt)]
    exact (f2 b hb).1
  have st3 : tn 0 s3.heap := T.keep _ _ _ st2 fun b _ o e => by rw [h3]; exact Heap.get?_push_of_some _ e
  have I4 := blkH_start hp I3 ok hN f3
  have hotB : ∀ (s : Shared) (H : Hp) (cenv : Env) (fp : List Addr), HotC (blkH X p s H scope cenv fp) := fun _ _ _ _ => ⟨p, h1, List.mem_singleton.mpr rfl⟩
  have pg := hg p s3 (upd H2 D (.lst [])) s3.heap.objs.size (cellsFrom (s3.heap.objs.size + 1) scope.names (cloFrom X.env.cells scope.names [])) fp (hotB _ _ _ _)
  have pt := ht p s3 (upd H2 D (.lst [])) s3.heap.objs.size (cellsFrom (s3.heap.objs.size + 1) scope.names (cloFrom X.env.cells scope.names [])) fp
  have pe := he p s3 (upd H2 D (.lst [])) s3.heap.objs.size (cellsFrom (s3.heap.objs.size + 1) scope.names (cloFrom X.env.cells scope.names [])) fp
  show codeAny _ _ (.compStart (.ListComp elt [⟨tg, iter, ifs, 0⟩] scope pos) 0 (.ref it) (.ref D) (compEnvC scope (cellsFrom (s3.heap.objs.size + 1) scope.names (cloFrom X.env.cells scope.names [])) s3.heap.objs.size X.env)) (compPost (model X.prog X.w) X.A X.xe use Qf (.ref D) s3.heap.objs.size) { s3 with heap := pushCells (s3.heap.push { cls := .type "dict", data := .dict #[] }) scope.names }
  have nfp : ∀ b ∈ fp, (upd H2 D (.lst [])) b = none := fun b hb => (f3 b hb).1.1
  generalize hce : compEnvC scope (cellsFrom (s3.heap.objs.size + 1) scope.names (cloFrom X.env.cells scope.names [])) s3.heap.objs.size X.env = ce at I4 pg pt pe ⊢
  have cL : ce.locals = s3.heap.objs.size := by rw [← hce]; rfl
  generalize hH3 : upd H2 D (.lst []) = H3 at I3 I4 pg pt pe w0 nfp f3
  generalize hs4 : ({ s3 with heap := pushCells (s3.heap.push { cls := .type "dict", data := .dict #[] }) scope.names } : Shared) = s4 at I4 ⊢
  have st4 : tn 0 s4.heap := T.keep _ _ _ st3 fun b _ o e => by rw [← hs4]; exact pushCells_keeps _ _ _ _ (Heap.get?_push_of_some _ e)
  have stay : ∀ {σ1 : L2.St} {H1 : Hp} {s1 : Shared}, Inv (blkH X p s3 H3 scope ce fp) [] σ1 H1 s1 → (∀ b ∈ fp, H1 b = none) → ∀ b ∈ fp, FpOk (blkH X p s3 H3 scope ce fp) [] H1 b := fun {σ1 H1 s1} J1 n1 b hb =>
    ⟨n1 b hb, (J1.ok.exf b hb).1, J1.ok.exfs b hb, .inl hb, fun x c e => (J1.ok.exf b hb).2 x c e, fun z hz => by
      obtain rfl : z = p := by simpa using hz
      exact (f3 b hb).1.2.2.2.2.2 z (List.mem_append_left _ hp)⟩
  refine codeAny_compStart_list ?_ (T.self X.A 0 _ _ _ st4 ?_) <;> (
    refine compLoop_any (fun n s' => ∃ i H', Inv (blkH X p s3 H3 scope ce fp) [] (wipe σ (own.map (·.2))) H' s' ∧ tn i s'.heap ∧ (∀ b ∈ fp, H' b = none) ∧ W i n H') ?_ m0 ⟨0, H3, I4, st4, nfp, w0⟩
    rintro n s5 ⟨i, H5, I5, st5, n5, w5⟩
    rcases turn i n H5 w5 with ⟨stop, qq⟩ | ⟨go, Nx, hNx, step⟩
    · refine thnF (T.done (blkH X p s3 H3 scope ce fp) rfl rfl rfl (hotB _ _ _ _) i [] s5 _ H5 (fun _ _ => False) I5 (stay I5 n5) st5 stop) ?_
      rintro _ s6 ⟨rfl, I6⟩
      have I7 : Inv X pins σ H5 s6 := I3.call' (ch := fp) I6.os I6.base I6.hok I6.bare fun b hb => ⟨(f3 b hb).1.2.2.2.1, (f3 b hb).1.2.1, (f3 b hb).1.2.2.2.2.1, (f3 b hb).1.2.2.2.2.2⟩
      obtain ⟨m, hn, _⟩ := I6.loc
      have hn1 : s6.heap.Ns ce.locals m := hn
      have free5 : H5 ce.locals = none := I6.free
      rw [cL] at hn1 free5
      exact fin D _ s6 m H5 I7 qq hn1 (I3.fpOk (Nat.le_refl _) free5)
    · refine thnF (T.item (blkH X p s3 H3 scope ce fp) rfl rfl rfl (hotB _ _ _ _) i [] s5 _ H5 (fun _ _ => False) I5 (stay I5 n5) st5 go) ?_
      rintro _ s6 ⟨u, rfl, h6⟩
      refine thnF h6 ?_
      rintro _ s7 ⟨x, H7, I7, r7, y7, st7, n7⟩
      have K7 := I7.pinned (stay I7 n7) (T.obj _ _ st7)
      refine thnF (pg.run _ s7 _ H7 x u _ K7 r7 (step x H7 y7)) ?_
      rintro _ s8 ⟨σ8, H8, I8, hw, q8⟩
      refine thnF (pt.run _ s8 σ8 H8 _ I8 q8) ?_
      rintro b s9 ⟨H9, I9, q9⟩
      have again : ∀ {s' : Shared} {H' : Hp}, Inv (blkH X p s3 H3 scope ce fp) ([] ++ pinsAt fp s7.heap) σ8 H' s' → Nx H' → ∃ m, m < n ∧ ∃ i H', Inv (blkH X p s3 H3 scope ce fp) [] (wipe σ (own.map (·.2))) H' s' ∧ tn i s'.heap ∧ (∀ b ∈ fp, H' b = none) ∧ W i m H' := fun {s' H'} J1 nx => by
        obtain ⟨m1, lt, w1⟩ := hNx H' nx
        have there : ∀ b ∈ fp, ∀ o, s7.heap.get? b = some o → s'.heap.get? b = some o ∧ H' b = none := fun b hb o e => by
          obtain ⟨z1, z2, _⟩ := J1.pin (b, o) (List.mem_append_right _ (List.mem_append_right _ (mem_pinsAt hb e)))
          exact ⟨z1, z2⟩
        refine ⟨m1, lt, i + 1, H', (J1.unpinned (pins := [])).weak (by rw [← hw, wipe_length]) (fun j v e => ?_), T.keep _ _ _ st7 fun b hb o e => (there b hb o e).1, fun b hb => ?_, w1⟩
        · rw [← hw] at e
          exact (wipe_some e).1
        · obtain ⟨o, e, _⟩ := T.obj _ _ st7 b hb
          exact (there b hb o e).2
      cases b with
      | false => exact again I9 (by simpa using q9)
      | true =>
        simp only [if_true] at q9 ⊢
        refine thnF (pe.run _ s9 σ8 H9 _ I9 q9) ?_
        rintro z s10 ⟨yv, H10, I10, r10, acc, hD10, hz10, nx⟩
        exact app_ok (X := blkH X p s3 H3 scope ce fp) I10 hD10 hz10 r10 fun s11 I11 => again I11 nx)
theorem pe_lcH {elt iter : Expr} {ifs : List Expr} {scope : Scope} {own : List (Str × Nat)} {pos : Pos} {wi : TI} {g : TG} {tt : TT} {te : TE} (hot : HotC X) (hN : X.N.Nodup) (hi : PIH X tg iter wi) (ok : BlkOk X.N X.env.scope scope own)
    (hg : ∀ (p : Addr × PySem.Obj) (s : Shared) (H : Hp) (C : Addr) (cl : List (Str × Addr)) (fp : List Addr), HotC (blkH X p s H scope (compEnvC scope cl C X.env) fp) → PG (blkH X p s H scope (compEnvC scope cl C X.env) fp) tg g)
    (ht : ∀ (p : Addr × PySem.Obj) (s : Shared) (H : Hp) (C : Addr) (cl : List (Str × Addr)) (fp : List Addr), PTs (blkH X p s H scope (compEnvC scope cl C X.env) fp) ifs tt)
    (he : ∀ (p : Addr × PySem.Obj) (s : Shared) (H : Hp) (C : Addr) (cl : List (Str × Addr)) (fp : List Addr), PE (blkH X p s H scope (compEnvC scope cl C X.env) fp) elt te) (hs : ∀ x, foldedSetIterable iter X.env x = pure x := by intro _; rfl) :
    PE X (.ListComp elt [⟨tg, iter, ifs, 0⟩] scope pos) (tLc wi g tt te (own.map (·.2))) := by
  constructor
  intro pins s σ H Q I h
  rw [eval_ListComp]
  refine lc_coreH hot hN I hi ok hg ht he hs h ?_
  intro D C s1 m H1 I1 q ns fo
  refine ⟨m, ns, fun g sb => ?_⟩
  obtain ⟨g0, g1, _, g3, g4, g5⟩ := fo
  exact ⟨.ref D, H1, I1.turned (t' := s1.toks) (fun b o hb e => (sb.2 b hb).trans e) g0 g1 g3 g4 g5, rfl, q⟩
theorem ps_setLcH {i : Nat} {y : Str} {py : Pos} {elt iter : Expr} {ifs : List Expr} {scope : Scope} {own : List (Str × Nat)} {pos spos : Pos} {wi : TI} {g : TG} {tt : TT} {te : TE} (hot : HotC X) (hN : X.N.Nodup) (hy : X.N[i]? = some y) (hyl : X.env.scope.names.lookup y = some .local)
    (hsw : swapsWith (.ListComp elt [⟨tg, iter, ifs, 0⟩] scope pos) (some (.Name y py)) spos.line X.env = pure true) (hi : PIH X tg iter wi) (ok : BlkOk X.N X.env.scope scope own)
    (hg : ∀ (p : Addr × PySem.Obj) (s : Shared) (H : Hp) (C : Addr) (cl : List (Str × Addr)) (fp : List Addr), HotC (blkH X p s H scope (compEnvC scope cl C X.env) fp) → PG (blkH X p s H scope (compEnvC scope cl C X.env) fp) tg g)
    (ht : ∀ (p : Addr × PySem.Obj) (s : Shared) (H : Hp) (C : Addr) (cl : List (Str × Addr)) (fp : List Addr), PTs (blkH X p s H scope (compEnvC scope cl C X.env) fp) ifs tt)
    (he : ∀ (p : Addr × PySem.Obj) (s : Shared) (H : Hp) (C : Addr) (cl : List (Str × Addr)) (fp : List Addr), PE (blkH X p s H scope (compEnvC scope cl C X.env) fp) elt te) (hs : ∀ x, foldedSetIterable iter X.env x = pure x := by intro _; rfl) :
    PS X (.Assign [.Name y py] (.ListComp elt [⟨tg, iter, ifs, 0⟩] scope pos) spos) (tAsg (tLc wi g tt te (own.map (·.2))) (gName i)) := by
  constructor
  intro pins s σ H D I h
  have h1 : tLc wi g tt te (own.map (·.2)) σ H (fun x H1 => gName i x σ H1 D.nx) := h
  rw [exec_Assign_Name_used _ _ _ _ hsw]
  refine wpAny_bind (wpAny_standAt (wpAny_bind ?_))
  show wpAny _ X.A (do let _ ← comprehension (.ListComp elt [⟨tg, iter, ifs, 0⟩] scope pos) scope X.env (firstIterPos [⟨tg, iter, ifs, 0⟩] pos) (newList []) false (eval iter X.env) (some (assign (.Name y py) X.env))) _ _ s
  refine wpAny_bind (thn (lc_coreH (Qf := fun _ s1 => SP X pins D .next s1) hot hN I hi ok hg ht he hs h1 ?_) fun _ s1 q => wpAny_pure (wpAny_pure q))
  intro L C s1 m H1 I1 q ns fo
  show wpAny _ _ (assign (.Name y py) X.env (.ref L)) _ _ _
  refine wpAny_assign_Name (store_ok2 (v := V.ref L) I1 hN hy (.inl hyl) rfl ?_ (.inr hyl))
  rintro s2 I2 ⟨a, sb, ha⟩
  obtain ⟨g0, g1, _, g3, g4, g5⟩ := fo
  have ne : C ≠ a := by
    cases ha with
    | inl z => exact z ▸ g1
    | inr z => exact fun e => g4 y a z e.symm
  refine ⟨m, ns.sameBut sb ne, fun g sb2 => ?_⟩
  exact ⟨_, H1, I2.turned (t' := s2.toks) (fun b o hb e => (sb2.2 b hb).trans e) g0 g1 g3 g4 g5, q⟩
end
end Fr

namespace Fr
open PySem PySem.Spec PyProof.Rows L2 HotX L2H
section
variable {X : Cx}
/-- an own error made with its __init__: its context is None -/
theorem mk_oexN {CX : CXT} {x : Str} {C fI : Addr} {k : Nat} {fd : FuncData} {ps : List Str} {sp : Sp} {e : Expr} {es : List Expr} {ta : TA} {p pos : Pos} (T : OexC X.K C) (iC : PySem.W.findIn X.K (.ref C) "__init__" = some (some (.ref fI))) (tI : PySem.W.typeIn X.K (.ref fI) = some (.type "function"))
    (F1 : FnOk X.prog X.w X.K X.mg X.base CX k fI fd ps sp) (hr : Room (k + 1) X.A) (hb : Binds X.K fd ps []) (hx : Passes CX X (fun _ _ _ => False)) (hg : Gl X x) (hm : X.mg x = some (.ref C)) (ha : PA X (e :: es) ta)
    (hdb : (x == ("__debug__" : Str)) = false := by decide) (he : starEach (e :: es) X.env = (false, eval e X.env) :: starEach es X.env := by rfl) (hpl : (backTo pos (starEach es X.env)).any (·.1) = false := by rfl) :
    L2N.PMk X (.Call (.Name x p) (e :: es) [] pos) (tMkO C sp [] ta) := by
  intro pins s σ H Q I h
  obtain ⟨_, _, _, _, bm, _, _, _, _, _, _, _, _, _, _, hC, hbm⟩ := T.cls
  refine wpAny_Call_Name_kw (ld_glob I hg hm ?_ hdb)
  refine PySem.W.callWith_K (h₀ := X.base) I.ok.mod.kin T.kC (thn (ha.run pos pins s σ H _ I h) ?_) he hpl
  rintro us ⟨hp, g, dr, tk, os⟩ ⟨vs, H1, I1, r1, few, q1⟩
  refine ⟨I1.kIn, ?_⟩
  show wpAny _ _ (call (.ref C) us) _ _ _
  have up : hp.objs.size ≤ hp.objs.size + 1 := Nat.le_succ _
  have hq := q1 (hp.objs.size + 1) (I1.hok.fresh up)
  have stays : ∀ b o, hp.get? b = some o → ((hp.push (PySem.W.kdv_tup us)).push (PySem.HandSPX.excO C hp.objs.size)).get? b = some o := fun b o e => Heap.get?_push_of_some _ (Heap.get?_push_of_some _ e)
  have there : ((hp.push (PySem.W.kdv_tup us)).push (PySem.HandSPX.excO C hp.objs.size)).get? (hp.objs.size + 1) = some (PySem.HandSPX.excO C hp.objs.size) := by heap_get
  have I2 : Inv X pins σ (upd H1 (hp.objs.size + 1) (exo (hp.objs.size + 1) C none)) ⟨(hp.push (PySem.W.kdv_tup us)).push (PySem.HandSPX.excO C hp.objs.size), g, dr, tk, os⟩ :=
    I1.laid (t' := tk) (a := hp.objs.size + 1) (o := exo (hp.objs.size + 1) C none) (h' := (hp.push (PySem.W.kdv_tup us)).push (PySem.HandSPX.excO C hp.objs.size)) stays up (exo_ok there)
  have r2 : Vals (V.ref (hp.objs.size + 1) :: (vs ++ [])) (Value.ref (hp.objs.size + 1) :: (us ++ [])) := .cons rfl (r1.append .nil)
  have hl : (Value.ref (hp.objs.size + 1) :: us ++ []).length = ps.length := by
    have z := r2.length
    rw [F1.len _ _ _ _ hq] at z
    exact z.symm
  have hus : us.length ≤ sizeLine := by
    rw [← Paired.length r1, sizeLine_eq]
    omega
  refine wpAny_call (PySem.HandSPX.call_own F.excBase_ValueError (fun Y => PySem.HandSPX.refsVE_contains Y bm hbm) (I1.kIn _ _ hC) (PySem.W.looks_findIn I1.kIn iC) (fun self => PySem.W.bind_fn I1.kIn self tI) hus
    (codeAny_mono (F1.run _ X.stack _ _ ⟨Value.ref (hp.objs.size + 1) :: us, []⟩ _ _ _ (fun _ _ _ => False) (hr.make C us []) (I2.env0.make C us []) (hb _ (Value.ref (hp.objs.size + 1) :: us) I2.kIn hl) r2 hq) ?_))
  rintro r ⟨h2, g2, d2, t2, os2⟩ hq2
  cases r with
  | error er => exact hx pins σ _ _ er _ I2 hq2
  | ok fl =>
    cases fl with
    | ret u =>
      obtain ⟨v, H2, o2, bare2, un2, hok2, rv, rfl, d, fs, ea, ed, hd1, q2⟩ := hq2
      obtain ⟨_, G, J, kG, ge, hoe, na⟩ := mk_end0 (d2 := d2) (t2 := t2) I1 up stays un2 hok2 o2 bare2 ea ed hd1
      refine ⟨rv, hp.objs.size + 1, _, _, ⟨G, g2, d2, t2, os2⟩, _, .ref C, some d, rfl, J, kG, ge, hoe, ⟨rfl, rfl, fun vs hv => ?_⟩, rfl, rfl, na, rfl, bare2, raises_own T.exC T.tyC, q2⟩
      cases hv
      rfl
    | next => exact False.elim hq2
    | brk => exact False.elim hq2
    | cont => exact False.elim hq2
/-- a class call whose __init__ may raise -/
theorem run_mkS {CX : CXT} {k : Nat} {f C : Addr} {fd : FuncData} {ps : List Str} {sp : Sp} {dvs : List V} {ds : List Value} {E : L2.St → XK} {pins : List (Addr × PySem.Obj)} {σ : L2.St} {H : Hp} {s : Shared} {Q : VK} {us : List Value} {vs : List V} (M : Mk X.K C f) (F : FnOk X.prog X.w X.K X.mg X.base CX k f fd ps sp) (hr : Room (k + 1) X.A) (hb : Binds X.K fd ps ds) (hd : Vals dvs ds)
    (hx : PassesAt CX X σ (E σ)) (I : Inv X pins σ H s) (r : Vals vs us) (h : ∀ x dx, H x = none → H dx = none → dx ≠ x → sp (.ref x :: (vs ++ dvs)) (upd (upd H dx (.own x)) x (.ins C dx [])) (fun v H2 => v = .non ∧ Q (.ref x) H2) (E σ)) :
    wpAny (model X.prog X.w) X.A (call (.ref C) us) (EP X pins σ Q) X.xe s := by
  have hq := h (s.heap.objs.size + 1) s.heap.objs.size (I.hok.fresh (Nat.le_succ _)) (I.hok.fresh (Nat.le_refl _)) (Nat.ne_of_lt (Nat.lt_succ_self _))
  have J := Inv.made (C := C) I
  have r2 : Vals (V.ref (s.heap.objs.size + 1) :: (vs ++ dvs)) (Value.ref (s.heap.objs.size + 1) :: (us ++ ds)) := .cons rfl (r.append hd)
  have hl : (Value.ref (s.heap.objs.size + 1) :: us ++ ds).length = ps.length := r2.length.symm.trans (F.len _ _ _ _ hq)
  refine wpAny_call (make_map (f := f) I.kIn M.makes M.init (beq_iff_eq.mp M.fn) (codeAny_mono (F.run _ X.stack _ _ ⟨Value.ref (s.heap.objs.size + 1) :: us, []⟩ _ _ _ (E σ) (hr.make C us []) (J.env0.make C us []) (hb _ (Value.ref (s.heap.objs.size + 1) :: us) J.kIn hl) r2 hq) ?_))
  intro rs s2 z
  cases rs with
  | error e => exact hx pins _ _ e s2 J z
  | ok fl =>
    cases fl with
    | ret u =>
      obtain ⟨v, H2, J2, rv, rfl, q⟩ := J.after z
      exact ⟨rv, V.ref (s.heap.objs.size + 1), H2, J2, rfl, q⟩
    | next => exact False.elim z
    | brk => exact False.elim z
    | cont => exact False.elim z
def tMakeS (C : Addr) (sp : Sp) (E : L2.St → XK) (t : TA) : TE := fun σ H Q => t σ H fun vs H1 => ∀ x dx, H1 x = none → H1 dx = none → dx ≠ x → sp (.ref x :: (vs ++ [])) (upd (upd H1 dx (.own x)) x (.ins C dx [])) (fun v H2 => v = .non ∧ Q (.ref x) H2) (E σ)
end
section
variable {P : Program} {w : World} {K : PySem.W.Frag} {mg : Str → Option Value} {base : Heap}
theorem fun_okN {x qual : Str} {st : Stmt} {f : Addr} {fd : FuncData} {N ps : List Str} {k : Nat} {sp : Sp} (F : Fun K x qual st f fd) (S : FnScope N ps (defScope st)) (len : ∀ vs H Q E, sp vs H Q E → vs.length = ps.length)
    (body : ∀ (cdv : Value) (A : Around) (outer : List Env) (s : Shared) (H : Hp) (vs : List V) (Q : VK) (E : XK), Room k (A.deeper (envOfC qual (defScope st) s.heap.objs.size f cdv)) → sp vs H Q E →
      ∃ t, PSs (cxOf (L2N.CX P w) P w K mg base N qual (defScope st) f cdv A outer s H E) (defBody st) t ∧ t { nx := fun _ H' => Q .non H', rt := Q } (start N vs) H) : FnOk P w K mg base (L2N.CX P w) (k + 1) f fd ps sp := by
  obtain ⟨oc, od, kV, doc, pm, an, cdv, ct, osl, rfl, lk, hcd⟩ := F.ex
  exact fn_of lk hcd S len fun A outer s H vs Q E hr hsp => body cdv A outer s H vs Q E hr hsp
structure CalN (P : Program) (w : World) (K : PySem.W.Frag) (mg : Str → Option Value) (base : Heap) (k : Nat) (x : Str) (sp : Sp) : Prop where
  ex : ∃ (f : Addr) (fd : FuncData) (ps : List Str), FnOk P w K mg base (L2N.CX P w) k f fd ps sp ∧ mg x = some (.ref f) ∧ PySem.W.keepIn K (.ref f) = true ∧ Binds K fd ps []
structure MakN (P : Program) (w : World) (K : PySem.W.Frag) (mg : Str → Option Value) (base : Heap) (k : Nat) (x : Str) (C : Addr) (sp : Sp) : Prop where
  ex : ∃ (f : Addr) (fd : FuncData) (ps : List Str), Mk K C f ∧ FnOk P w K mg base (L2N.CX P w) k f fd ps sp ∧ mg x = some (.ref C) ∧ Binds K fd ps []
theorem fn_orN {k : Nat} {f : Addr} {fd : FuncData} {ps : List Str} {sp0 sp1 : Sp} (F0 : FnOk P w K mg base CX0 k f fd ps sp0) (F1 : FnOk P w K mg base (L2N.CX P w) k f fd ps sp1) : FnOk P w K mg base (L2N.CX P w) k f fd ps (fun vs H Q E => sp0 vs H Q E ∨ sp1 vs H Q E) :=
  ⟨fun vs H Q E h => h.elim (F0.len vs H Q E) (F1.len vs H Q E), fun A outer s H args us vs Q E hr e0 hb r h => h.elim
    (fun h => codeAny_mono (F0.run A outer s H args us vs Q E hr e0 hb r h) fun rs s' z => by
      cases rs with
      | error e => exact False.elim z
      | ok fl => cases fl <;> exact z) (F1.run A outer s H args us vs Q E hr e0 hb r)⟩
end
section
variable {X : Cx} {k j : Nat} {x : Str} {sp : Sp} {W : WX} {e : Expr} {es : List Expr} {t : TA} {p pos : Pos} {C : Addr}
theorem pe_cN (c : CalN X.prog X.w X.K X.mg X.base k x sp) (hr : Room j X.A) (hk : k ≤ j) (hg : Gl X x) (tk : L2N.Takes X W) (ha : PA X (e :: es) t)
    (hdb : (x == ("__debug__" : Str)) = false := by decide) (he : starEach (e :: es) X.env = (false, eval e X.env) :: starEach es X.env := by rfl) (hpl : (backTo pos (starEach es X.env)).any (·.1) = false := by rfl) : PE X (.Call (.Name x p) (e :: es) [] pos) (tCallS sp (WE W) t) := by
  obtain ⟨f, fd, ps, F, hm, kp, b⟩ := c.ex
  exact pe_callS F (hr.mono hk) hg hm kp b (fun σ => L2N.passAt tk σ) ha hdb he hpl
theorem pe_mkN (c : MakN X.prog X.w X.K X.mg X.base k x C sp) (hr : Room j X.A) (hk : k + 1 ≤ j) (hg : Gl X x) (tk : L2N.Takes X W) (ha : PA X (e :: es) t)
    (hdb : (x == ("__debug__" : Str)) = false := by decide) (he : starEach (e :: es) X.env = (false, eval e X.env) :: starEach es X.env := by rfl) (hpl : (backTo pos (starEach es X.env)).any (·.1) = false := by rfl) : PE X (.Call (.Name x p) (e :: es) [] pos) (tMakeS C sp (WE W) t) := by
  obtain ⟨f, fd, ps, M, F, hm, b⟩ := c.ex
  constructor
  intro pins s σ H Q I h
  refine wpAny_Call_Name_kw (ld_glob I hg hm (PySem.W.callWith_K (h₀ := X.base) I.ok.mod.kin M.kp (thn (ha.run pos pins s σ H _ I h) ?_) he hpl) hdb)
  rintro us s1 ⟨vs, H1, I1, r, q⟩
  exact ⟨I1.kIn, run_mkS (E := WE W) M F (hr.mono hk) b .nil (L2N.passAt tk σ) I1 r q⟩
end
end Fr

namespace Fr
open PySem PySem.Spec PyProof.Rows L2 HotX L2H
abbrev SpE := Addr → Value → Option Addr → Hp → VK → Prop
/-- the error at a, as it stands while it is handled -/
def HasE (a : Addr) (cls : Value) (d : Option Addr) (oe : PySem.Obj) : Prop := L2N.Zn cls d oe ∧ ∃ vs, oe.data = .fields vs
theorem HasE.hot {A : Around} {a : Addr} {cls : Value} {d : Option Addr} {oe : PySem.Obj} (h : HasE a cls d oe) (e : A.handled = some (.ref a)) : Hot1 A (a, oe) := by
  obtain ⟨z, vs, dv⟩ := h
  exact ⟨e, vs, dv, z.2.2 vs dv⟩
structure FnE (P : Program) (w : World) (K : PySem.W.Frag) (mg : Str → Option Value) (base : Heap) (k : Nat) (f : Addr) (fd : FuncData) (y : Str) (sp : SpE) : Prop where
  go : ∀ (A : Around) (outer : List Env) (s : Shared) (H : Hp) (args : Args) (a : Addr) (oe : PySem.Obj) (cls : Value) (d : Option Addr) (Q : VK), RoomH k A → A.handled = some (.ref a) → HasE a cls d oe → PinOk outer H s (a, oe) → Env0 P w K mg base A outer s H → BindsTo s fd args [(y, .ref a)] → sp a cls d H Q →
    codeAny (model P w) A (.call (.ref f) args) (CR CX0 outer P w H s Q C8.E0) s
section
variable {P : Program} {w : World} {K : PySem.W.Frag} {mg : Str → Option Value} {base : Heap}
theorem Fun_okE {x qual y : Str} {st : Stmt} {f : Addr} {fd : FuncData} {N : List Str} {k : Nat} {sp : SpE} (F : Fun K x qual st f fd) (S : FnScope N [y] (defScope st))
    (hb : ∀ (cd : Value) (A : Around) (outer : List Env) (s : Shared) (H : Hp) (a : Addr) (oe : PySem.Obj) (cls : Value) (d : Option Addr) (Q : VK), HasE a cls d oe → HotC (cxH CX0 P w K mg base N qual (defScope st) f cd A outer s H C8.E0 (a, oe)) → RoomH k (A.deeper (envOfC qual (defScope st) s.heap.objs.size f cd)) → sp a cls d H Q →
      ∃ t, PSs (cxH CX0 P w K mg base N qual (defScope st) f cd A outer s H C8.E0 (a, oe)).nox (defBody st) t ∧ t { nx := fun _ H' => Q .non H', rt := Q } (start N [.ref a]) H) : FnE P w K mg base (k + 1) f fd y sp := by
  obtain ⟨oc, od, kV, doc, pm, an, cd, ct, osl, rfl, lk, hcd⟩ := F.ex
  constructor
  intro A outer s H args a oe cls d Q hr hh he pin e0 bt hq
  have inK : K.In s.heap := e0.mod.kin.keeps fun b o z => (e0.bs b o z).1
  have noL : s.heap.NoLimit := e0.mod.nolimit.keeps fun b o z => (e0.bs b o z).1
  have kinds : ∀ z ∈ [(y, Value.ref a)], (defScope st).names.lookup z.1 = some .local ∨ ((defScope st).names.lookup z.1 = some .cell ∧ ((cellsFrom (s.heap.objs.size + 1) (defScope st).names []).lookup z.1).isSome = true) := by
    intro z hz
    obtain rfl := List.mem_singleton.mp hz
    cases S.par y (List.mem_singleton.mpr rfl) with
    | inl q => exact Or.inl q
    | inr q => exact Or.inr ⟨q, PySem.W.cellsFrom_some _ _ _ (Or.inl q)⟩
  refine codeAny_call_function hr.depth (inK _ _ lk) rfl S.co S.gen rfl (PySem.W.codeRec_of inK hcd) (bt _ _ _ _ (wpAny_newFunctionEnv_cells S.kind kinds ?_))
  rintro _ rfl s1 ic
  refine ⟨noL.keeps ic.toInCall.keep, codeAny_func ?_⟩
  have rv : Vals [V.ref a] [Value.ref a] := .cons rfl .nil
  obtain ⟨t, pt, ht⟩ := hb cd A outer s H a oe cls d Q he ⟨(a, oe), he.hot hh, List.mem_singleton.mpr rfl⟩ (hr.deeper _) hq
  have I0 := inv_startH (CX := CX0) (E := C8.E0) S pin e0 (us := [Value.ref a]) (vs := [V.ref a]) rfl rv ic
  refine wpAny_mono (pt.nox.run [] s1 (start N [.ref a]) H _ I0 ht) (fun fl s2 z => ?_) fun _ _ z => z
  cases fl with
  | next =>
    obtain ⟨_, H2, J, q⟩ := z
    exact ⟨V.non, H2, J.os, J.bare, J.base, J.hok, rfl, q⟩
  | ret u =>
    obtain ⟨v, _, H2, J, ru, q⟩ := z
    exact ⟨v, H2, J.os, J.bare, J.base, J.hok, ru, q⟩
  | brk => exact z.elim fun _ z => z.elim fun _ z => z.2.elim
  | cont => exact z.elim fun _ z => z.elim fun _ z => z.2.elim
structure CalE (P : Program) (w : World) (K : PySem.W.Frag) (mg : Str → Option Value) (base : Heap) (k : Nat) (x : Str) (sp : SpE) : Prop where
  ex : ∃ (f : Addr) (fd : FuncData) (y : Str), FnE P w K mg base k f fd y sp ∧ mg x = some (.ref f) ∧ PySem.W.keepIn K (.ref f) = true ∧ Binds K fd [y] []
end
section
variable {X : Cx} {k j : Nat} {x : Str} {sp : SpE} {p pos : Pos} {e : Expr} {t : TA} {a : Addr} {oe : PySem.Obj} {cls : Value} {d : Option Addr}
def tCallE (a : Addr) (cls : Value) (d : Option Addr) (sp : SpE) (t : TA) : TE := fun σ H Q => t σ H fun vs H1 => vs = [.ref a] ∧ sp a cls d H1 Q
theorem pe_cE (c : CalE X.prog X.w X.K X.mg X.base k x sp) (hr : RoomH j X.A) (hk : k ≤ j) (hh : X.A.handled = some (.ref a)) (he : HasE a cls d oe) (hp : (a, oe) ∈ X.pn) (hg : Gl X x) (ha : PA X [e] t)
    (hdb : (x == ("__debug__" : Str)) = false := by decide) (hst : starEach [e] X.env = (false, eval e X.env) :: starEach [] X.env := by rfl) : PE X (.Call (.Name x p) [e] [] pos) (tCallE a cls d sp t) := by
  obtain ⟨f, fd, y, F1, hm, kp, b⟩ := c.ex
  constructor
  intro pins s σ H Q I h
  refine wpAny_Call_Name_kw (ld_glob I hg hm (PySem.W.callWith_K (h₀ := X.base) I.ok.mod.kin kp (thn (ha.run pos pins s σ H _ I h) ?_) hst rfl) hdb)
  rintro us s1 ⟨vs, H1, I1, r, rfl, q⟩
  refine ⟨I1.kIn, ?_⟩
  cases r with
  | cons r rr =>
    cases rr
    cases r
    obtain ⟨p1, p2, p3, p4, p5⟩ := I1.pin (a, oe) (List.mem_append_left _ hp)
    refine wpAny_call (codeAny_mono (F1.go X.A X.stack s1 H1 ⟨[.ref a], []⟩ a oe cls d Q (hr.mono hk) hh he ⟨p1, p2, fun hm => (List.mem_cons.mp (I1.stkSub a hm)).elim p3 p4, p5⟩ I1.env0 (b s1 [.ref a] I1.kIn rfl) q) ?_)
    intro rs s2 z
    cases rs with
    | error e => exact False.elim z
    | ok fl =>
      cases fl with
      | ret u => exact I1.after z
      | next => exact False.elim z
      | brk => exact False.elim z
      | cont => exact False.elim z
theorem look_hot {pins : List (Addr × PySem.Obj)} {σ : L2.St} {H : Hp} {s : Shared} {C dd : Addr} {fs : List (Str × V)} (I : Inv X pins σ H s) (he : HasE a (.ref C) (some dd) oe) (hp : (a, oe) ∈ X.pn) (hd : H dd = some (.xd fs)) :
    ∃ (od : PySem.Obj) (mA : Str → Option Value), PySem.W.InstAt s.heap a oe C (some od) ∧ (∀ f, RelO (fs.lookup f) (mA f)) ∧ ∀ f, PySem.W.lookIn f od = some (mA f) := by
  obtain ⟨z, vs, df⟩ := he
  obtain ⟨mA, hns, rel⟩ := (show ObjOk X.prog X.w H s.heap dd (.xd fs) from I.hok dd _ hd)
  obtain ⟨od, hod, lk⟩ := lookIn_ns hns
  refine ⟨od, mA, ⟨(I.pin (a, oe) (List.mem_append_left _ hp)).1, z.1, ?_, ?_⟩, rel, lk⟩
  · unfold PySem.W.notCls
    rw [df]
  · rw [z.2.1]
    exact hod
def rIsP (K : PySem.W.Frag) (a : Addr) (cls : Value) (d : Option Addr) : List V → Hp → VK → Prop := fun xs H Q => ∃ (C dd : Addr) (fs : List (Str × V)) (c : V) (cv : Value) (b : Bool), xs = [.ref a, c] ∧ cls = .ref C ∧ d = some dd ∧ H dd = some (.xd fs) ∧ ErrC K C ∧ ClsV c cv ∧ PySem.W.kitOne K (.ref C) cv = some b ∧ Q (.bl b) H
theorem call_isP (he : HasE a cls d oe) (hp : (a, oe) ∈ X.pn) : CallR X (.builtin "isinstance") (rIsP X.K a cls d) := by
  intro pins s σ H xs us Q I r h
  obtain ⟨C, dd, fs, c, cv, b, rfl, rfl, rfl, hd, T, hc, e, q⟩ := h
  obtain ⟨u1, u2, rfl, r1, r2⟩ := vals2 r
  obtain rfl := hc.eq r2
  obtain rfl : u1 = Value.ref a := r1
  obtain ⟨od, mA, J, _, _⟩ := look_hot I he hp hd
  exact PySem.W.kia_one (PySem.W.kitx_exc T.cl T.ga T.gg T.oex.exC T.kc T.kg T.kt T.km) I.kIn J e (fun z => by cases z) fun tk => ⟨.bl b, H, I.tok tk, rfl, q⟩
def tErrP (K : PySem.W.Frag) (a : Addr) (cls : Value) (d : Option Addr) (f : Str) (te : TE) : TE := fun σ H Q => te σ H fun x H1 => ∃ (C dd : Addr) (fs : List (Str × V)) (v : V), x = .ref a ∧ cls = .ref C ∧ d = some dd ∧ H1 dd = some (.xd fs) ∧ ErrC K C ∧ PySem.W.findIn K (.ref C) f = some none ∧ fs.lookup f = some v ∧ Q v H1
theorem pe_errP {f : Str} {te : TE} (he : HasE a cls d oe) (hp : (a, oe) ∈ X.pn) (h : PE X e te) (hb : attributeBase e f X.env (eval e X.env) = eval e X.env := by rfl) : PE X (.Attribute e f pos) (tErrP X.K a cls d f te) := by
  constructor
  intro pins s σ H Q I q
  refine attr_of hb (thn (h.run pins s σ H _ I q) ?_)
  rintro u s1 ⟨x, H1, I1, rx, C, dd, fs, v, rfl, rfl, rfl, hd, T, no, hl, q⟩
  obtain rfl : u = Value.ref a := rx
  obtain ⟨od, mA, J, rel, lk⟩ := look_hot I1 he hp hd
  obtain ⟨u, hu, ru⟩ := RelO.some_of (v := v) (o := mA f) (by rw [← hl]; exact rel f)
  exact HandSPX.exc_get I1.kIn J T.ga T.gg T.oex.exC (PySem.W.findObj_own T.hd no rfl (by rw [lk, hu])) (handed_of ru) ⟨v, H1, I1.tok _, ru, q⟩
end
end Fr

namespace Fr
open PySem PySem.Spec PyProof.Rows L2 HotX L2H
section
variable {X : Cx}
/-- nothing leaves -/
def wNo : WX := fun _ _ _ _ => False
theorem takes_noN : L2N.Takes X wNo := fun u s x => by
  obtain ⟨_, _, _, _, _, _, _, _, _, _, _, _, _, _, _, _, z⟩ := x
  exact z.elim
def tRetE (sp : SpE) (i : Nat) : Addr → Value → Option Addr → TS := fun a cls d D σ H => tCallE a cls d sp (tCons (tVar i) tNil) σ H D.rt
/-- try: body, except X as n: return f(n) -/
theorem ps_try_retE {x n y : Str} {c : Value} {i j k : Nat} {sp : SpE} {body : List Stmt} {np fp ep pos pos' cpos rpos : Pos} {tb : WX → TS} (hs : X.stack = X.env :: X.outer) (hf : X.env.frame = some X.env.locals) (hN : X.N.Nodup) (hi : X.N[i]? = some n) (hln : X.env.scope.names.lookup n = some .local) (hc : Names X x c)
    (f : CalE X.prog X.w X.K X.mg X.base k y sp) (hr : Room j X.A) (hk : k ≤ j) (hg : Gl X y)
    (hb : ∀ (W : WX) (pn : List (Addr × PySem.Obj)) (xe : Value → Shared → Prop), L2N.Takes (X.tr pn xe) W → PassesOwn (model X.prog X.w) X.A X.env xe → PSs (X.tr pn xe) body (tb W))
    (hdn : (n == ("__debug__" : Str)) = false := by decide) (hcn : (n == ("__classdict__" : Str)) = false := by decide) (hdb : (y == ("__debug__" : Str)) = false := by decide) (hst : starEach [.Name n ep] X.env = (false, eval (.Name n ep) X.env) :: starEach [] X.env := by rfl) :
    PS X (.Try body [.ExceptHandler (some (.Name x np)) (some n) [.Return (some (.Call (.Name y fp) [.Name n ep] [] cpos)) rpos] pos'] [] [] pos) (fun D σ H => tb (wAs X.K c i (tRetE sp i) wNo D) D σ H) := by
  refine L2N.ps_try_as hs hf hN hi hln hc takes_noN hb fun a oe cls d pn hz hd => pss_one (ps_ret ?_)
  have ar : PA (X.suite a ((a, oe) :: pn)) [.Name n ep] (tCons (tVar i) tNil) := pa_cons (pv i hi (Or.inl hln) hdn hcn) pa_nil hst
  exact pe_cE (X := X.suite a ((a, oe) :: pn)) (j := j) f ⟨hr.dp, hr.un⟩ hk rfl ⟨hz, hd⟩ (List.mem_cons_self ..) hg ar hdb hst
/-- raise of an own error, its context kept -/
theorem ps_errN {W : WX} {k j : Nat} {x : Str} {C : Addr} {e : Expr} {t : TA} {p pos pos' : Pos} (c : MkR X.prog X.w X.K X.mg X.base k x C) (hc : X.calm = true) (tk : L2N.Takes X W) (hr : Room j X.A) (hk : k + 1 ≤ j) (hg : Gl X x) (ha : PA X [e] t)
    (hdb : (x == ("__debug__" : Str)) = false := by decide) (he : starEach [e] X.env = (false, eval e X.env) :: starEach [] X.env := by rfl) : PS X (.Raise (some (.Call (.Name x p) [e] [] pos)) none pos') (fun _ σ H => tMkO C (spErrI X.K) [] t σ H fun cls d H' => W cls d σ H') := by
  obtain ⟨f, fd, ps, i, ty, F1, b, hm⟩ := c.ex
  exact L2N.ps_raise hc tk (mk_oexN c.err.oex i ty F1 (hr.mono hk) b pass0 hg hm ha hdb he rfl)
end
end Fr

namespace Fr
open PySem PySem.Spec PyProof.Rows L2
/-- what a table has wrong by itself or beside the earlier ones -/
def rowBad (d : Int) (ts : List Tb) (i : Nat) (t : Tb) : Bool := !isName t.n || (decide (t.n ∈ (ts.map (·.n)).take i) || (decide (12 < cnt (ts.take (i + 1))) || !t.rs.all (isRead d)))
def rowLoose (ts : List Tb) (t : Tb) : Bool := !t.rs.all fun r => decide (r.t ∈ ts.map (·.n))
/-- sizes -/
structure Sz (ts : List Tb) : Prop where
  l : ts.length ≤ 100
  n : ∀ t ∈ ts, t.n.length ≤ 100000
  r : ∀ t ∈ ts, t.rs.length ≤ 1000
  k : ∀ t ∈ ts, ∀ r ∈ t.rs, r.t.length ≤ 100000
theorem inV_dec {x : Str} {l : List Str} : inV (.str x) (l.map V.str) = decide (x ∈ l) := by
  by_cases h : x ∈ l
  · rw [inV_str h, decide_eq_true h]
  · rw [inV_no h, decide_eq_false h]
theorem all_range {p : Rd1 → Bool} (rs : List Rd1) : ((List.range rs.length).map fun j => p (rs.getD j ⟨Str.empty, [], 0⟩)) = rs.map p := by
  have z := range_map_get (rs.map p) (fun j => p (rs.getD j ⟨Str.empty, [], 0⟩)) (fun i b hb => by
    rw [List.getElem?_map] at hb
    obtain ⟨c, h1, h2⟩ := Option.map_eq_some_iff.mp hb
    rw [List.getD_eq_getElem?_getD, h1]
    exact h2)
  rw [List.length_map] at z
  exact z
section
variable {P : Program} {w : World} {K : PySem.W.Frag} {mg : Str → Option Value} {base : Heap}
/-- the error with this class and number is let out -/
def Outs (CS : Addr) (H : Hp) (E : XK) (n : Int) : Prop := ∀ e H', Same H H' → H' e = some (.xd [(("value" : Str), .int n)]) → E (.ref CS) (some e) H'
def spCTN (K : PySem.W.Frag) (CS : Addr) : Sp := fun vs H Q E => ∃ (d : Int) (v : V) (ts : List Tb), vs = [.int d, v] ∧ Dp K H v (.list (ts.map Tb.d)) ∧ Sz ts ∧
  (∀ (i : Nat) (t : Tb), ts[i]? = some t → rowBad d ts i t = true → (∀ (j : Nat) (u : Tb), j < i → ts[j]? = some u → rowBad d ts j u = false) → Outs CS H E i) ∧
  ((∀ (i : Nat) (t : Tb), ts[i]? = some t → rowBad d ts i t = false) → ∀ H', Same H H' → Q .non H')
theorem ok_check_tablesN {f CS : Addr} {fd : FuncData} (F : Fun K "check_tables" "check_tables" s_check_tables f fd) (T : Txt mg) (c_is_name : C8.Cal P w K mg base 1 "is_name" spIsName []) (c_is_read : C8.Cal P w K mg base 2 "is_read" (spIsRead K) []) (r_InvalidSystem : MkR P w K mg base 1 "InvalidSystem" CS) : FnOk P w K mg base (L2N.CX P w) 3 f fd ["dimensions", "tables"] (spCTN K CS) := by
  refine fun_okN F sc_check_tables (fun vs H Q E h => ?_) (fun cdv A outer s H vs Q E hr h => ?_)
  · obtain ⟨d, v, ts, rfl, _⟩ := h
    rfl
  · obtain ⟨d, v, ts, rfl, hv, Z, qe, q⟩ := h
    refine ⟨_, (pss_cons (ps_setLc (i := 2) (own := [("table", 3)]) (g := gName 3) (tt := tYes) (by rfl) sc_check_tables.nd rfl rfl (sw_true rfl rfl rfl (by decide +kernel)) (pi_list (pv 1)) (blkOk_by (N := ["dimensions", "tables", "names", "table", "many", "row", "name", "_", "reads", "read"]) (sc := defScope s_check_tables) (by decide +kernel)) (fun _ _ _ _ _ => (pg_name (i := 3) sc_check_tables.nd rfl (by first | exact Or.inl rfl | exact Or.inr rfl))) (fun _ _ _ _ _ => pts_nil) (fun _ _ _ _ _ => (pe_ix (r := rIxT K) ix_tup (pv 3) pe_int (fun _ _ => rfl))))
  (pss_cons (ps_set (i := 4) sc_check_tables.nd rfl (by first | exact Or.inl rfl | exact Or.inr rfl) pe_int)
  (pss_one (ps_for (passes_of rfl) rfl (pi_enum (by rfl) T.b_enumerate (pa_cons (pv 1) pa_nil)) (pg_tup rfl (pgs_cons (pg_name (i := 5) sc_check_tables.nd rfl (by first | exact Or.inl rfl | exact Or.inr rfl)) (pgs_cons (pg_tup rfl (pgs_cons (pg_name (i := 6) sc_check_tables.nd rfl (by first | exact Or.inl rfl | exact Or.inr rfl)) (pgs_cons (pg_name (i := 7) sc_check_tables.nd rfl (by first | exact Or.inl rfl | exact Or.inr rfl)) (pgs_cons (pg_name (i := 8) sc_check_tables.nd rfl (by first | exact Or.inl rfl | exact Or.inr rfl)) pgs_nil)))) pgs_nil)))
    (pss_cons (ps_aug (i := 4) sc_check_tables.nd rfl (by first | exact Or.inl rfl | exact Or.inr rfl) (pe_callB call_len_seq (by rfl) T.b_len PySem.boot_len (pa_cons (pv 8) pa_nil)) ip_add)
    (pss_cons (ps_if (PW.pt (pw_or (pt_not (pt_val (C8.pe_c c_is_name hr (by decide) (by rfl) (pa_cons (pv 6) pa_nil)))) (pw_or (pt_cmpR op_in_seq (pv 6) (pe_slice sl_list (pv 2) po_none (po_some (pv 5))) (by rfl)) (pw_or1 (pt_cmpR op_gt (pv 4) (C8.pe_gc (by rfl) T.g_MOST_READS) (nomark _))))))
      (pss_one (ps_errN r_InvalidSystem rfl (L2N.takes_of rfl rfl rfl rfl) hr (by decide) (by rfl) (pa_cons (pv 5) pa_nil)))
      pss_nil)
    (pss_one (ps_if (pt_not (pt_val (pe_callB (cr_all rfl) (by rfl) T.b_all (by decide +kernel) (pa_cons (pe_lc (own := [("read", 9)]) (g := gName 9) (tt := tYes) (by rfl) sc_check_tables.nd (pi_list (pv 8)) (blkOk_by (N := ["dimensions", "tables", "names", "table", "many", "row", "name", "_", "reads", "read"]) (sc := defScope s_check_tables) (by decide +kernel)) (fun _ _ _ _ _ => (pg_name (i := 9) sc_check_tables.nd rfl (by first | exact Or.inl rfl | exact Or.inr rfl))) (fun _ _ _ _ _ => pts_nil) (fun _ _ _ _ _ => (C8.pe_c c_is_read hr (by decide) (by rfl) (pa_cons (pv 9) (pa_cons (pv 0) pa_nil))))) pa_nil))))
      (pss_one (ps_errN r_InvalidSystem rfl (L2N.takes_of rfl rfl rfl rfl) hr (by decide) (by rfl) (pa_cons (pv 5) pa_nil)))
      pss_nil)))))))), ?_⟩
    obtain ⟨a, xs, rfl, ha, hd⟩ := dlst hv
    have hxl : xs.length = ts.length := by rw [dps_len hd, List.length_map]
    have hl1 := Z.l
    refine ⟨_, rfl, a, rfl, ⟨_, ha⟩, fun D hD => lc_flat (walk_list (K := K) (a := a) (xs := xs)) (fun i => .str (nth (ts.map (·.n)) i)) (by omega) hD (fun H' sm => sql sm ha) (fun i H x H' y => yat_same y) ?_ ?_⟩
    · rintro i x H1 H2 hi sm ⟨rfl, hx⟩ R hR
      obtain ⟨t, b, l, ys, e1, rfl, g1, _, _⟩ := tb_at (dpsm sm _ _ hd) hx
      have en : nth (ts.map (·.n)) i = t.n := nth_of (by rw [List.getElem?_map, e1]; rfl)
      refine ⟨rfl, _, rfl, b, _, 0, _, rfl, rfl, g1, rfl, ?_⟩
      have r := hR H2 same_refl
      rw [en] at r
      exact r
    · intro H1 sm hD1
      have hD1 : H1 D = some (.lst ((ts.map (·.n)).map V.str)) := by
        rw [hD1, hxl, ← nths, List.length_map]
      refine ⟨_, rfl, a, xs, rfl, sql sm ha, for_it (walk_enum (K := K) (a := a) (xs := xs)) (fun i σ H2 => ∃ y5 y6 y7 y8, σ = [some (.int d), some (.ref a), some (.ref D), none, some (.int (cnt (ts.take i))), y5, y6, y7, y8, none] ∧ Same H1 H2 ∧ ∀ (j : Nat) (u : Tb), j < i → ts[j]? = some u → rowBad d ts j u = false)
        ⟨none, none, none, none, rfl, same_refl, fun j u z => absurd z (Nat.not_lt_zero _)⟩ (fun i σ H2 _ ⟨_, _, _, _, _, s2, _⟩ => sql (same_tr sm s2) ha) ?_ ?_⟩
      · rintro i x σ H2 H3 hi ⟨y5, y6, y7, y8, rfl, s2, good⟩ ⟨Tp, z1, z2, rfl, hT, rfl, e1, e2⟩
        cases e1
        have s3 : Same H1 (upd H2 Tp (.tup [.int (i : Nat), z2])) := same_tr s2 (snew hT)
        obtain ⟨t, b, l, ys, f1, rfl, g1, g2, g3⟩ := tb_at (dpsm (same_tr sm s3) _ _ hd) e2
        have htm : t ∈ ts := List.mem_of_getElem? f1
        have hyl : ys.length = t.rs.length := by rw [dps_len g3, List.length_map]
        have bad : rowBad d ts i t = true → ∀ e H', Same H H' → H' e = some (.xd [(("value" : Str), .int i)]) → E (.ref CS) (some e) H' := fun b => qe i t f1 b good
        have more : rowBad d ts i t = false → ∀ (j : Nat) (u : Tb), j < i + 1 → ts[j]? = some u → rowBad d ts j u = false := fun b j u lt e => by
          by_cases z : j = i
          · subst z
            rw [f1] at e
            cases e
            exact b
          · exact good j u (by omega) e
        refine ⟨Tp, _, rfl, Or.inl (Or.inl upd_same), rfl, _, _, rfl, _, _, rfl, b, _, rfl, g1, rfl, _, _, rfl, _, _, rfl, _, _, rfl, rfl, rfl, ?_⟩
        refine ⟨_, rfl, _, rfl, l, ys, rfl, Or.inl g2, _, _, rfl, rfl, ?_⟩
        have hc := cnt_take f1
        refine ⟨.str t.n, rfl, t.n, rfl, Z.n t htm, fun H4 s4 => ⟨_, rfl, ?_⟩⟩
        have s04 : Same H H4 := same_tr sm (same_tr s3 s4)
        have erb : rowBad d ts i t = (!isName t.n || (decide (t.n ∈ (ts.map (·.n)).take i) || (decide (12 < cnt (ts.take (i + 1))) || !t.rs.all (isRead d)))) := rfl
        rw [erb] at bad more
        cases hn : isName t.n with
        | false =>
          rw [hn] at bad
          refine iteT ⟨_, rfl, err_raise rfl r_InvalidSystem.err.oex r_InvalidSystem.no fun e he => bad rfl e _ (same_tr s04 (snew he)) upd_same⟩
        | true =>
          rw [hn] at bad more
          refine iteF ?_
          have hD4 : H4 D = some (.lst ((ts.map (·.n)).map V.str)) := s4 _ _ (s3 _ _ hD1)
          refine ⟨_, rfl, _, rfl, _, rfl, (i : Int), rfl, D, _, rfl, Or.inl (Or.inl hD4), fun p hp => ?_⟩
          have s5 : Same H4 (upd H4 p (.lst (cutV ((ts.map (·.n)).map V.str) none (some (i : Int))))) := snew hp
          rw [cut_to _ _ (by rw [List.length_map, List.length_map]; omega), ← List.map_take] at s5 ⊢
          refine ⟨p, _, rfl, Or.inl (Or.inl (Or.inl upd_same)), rfl, flat_strs _, decide (t.n ∈ (ts.map (·.n)).take i), ?_, ?_⟩
          · rw [inV_dec]
            rfl
          · cases h2 : decide (t.n ∈ (ts.map (·.n)).take i) with
            | true =>
              rw [h2] at bad
              exact iteT ⟨_, rfl, err_raise rfl r_InvalidSystem.err.oex r_InvalidSystem.no fun e he => bad rfl e _ (same_tr s04 (same_tr s5 (snew he))) upd_same⟩
            | false =>
              rw [h2] at bad more
              refine iteF ⟨_, rfl, _, 12, rfl, rfl, decide (12 < (cnt (ts.take i) : Int) + (ys.length : Int)), rfl, ?_⟩
              have e12 : decide (12 < (cnt (ts.take i) : Int) + (ys.length : Int)) = decide (12 < cnt (ts.take (i + 1))) := decide_eq_decide.mpr ⟨fun z => by omega, fun z => by omega⟩
              rw [e12]
              cases h3 : decide (12 < cnt (ts.take (i + 1))) with
              | true =>
                rw [h3] at bad
                exact iteT ⟨_, rfl, err_raise rfl r_InvalidSystem.err.oex r_InvalidSystem.no fun e he => bad rfl e _ (same_tr s04 (same_tr s5 (snew he))) upd_same⟩
              | false =>
                rw [h3] at bad more
                refine iteF ?_
                have s6 : Same H1 (upd H4 p (.lst (((ts.map (·.n)).take i).map V.str))) := same_tr s3 (same_tr s4 s5)
                have hrl := Z.r t htm
                refine ⟨_, rfl, l, rfl, ⟨ys, sql (same_tr s4 s5) g2⟩, fun D2 hD2 => lc_flat (walk_list (K := K) (a := l) (xs := ys)) (fun j => .bl (isRead d (t.rs.getD j ⟨Str.empty, [], 0⟩))) (by omega) hD2 (fun H' sm' => sql sm' (sql (same_tr s4 s5) g2)) (fun i H x H' y => yat_same y) ?_ ?_⟩
                · rintro j x H5 H6 hj sm5 ⟨rfl, hx⟩ R hR
                  obtain ⟨r, ra, rb, e3, rfl, e4, _, _⟩ := rd_at (dpsm sm5 _ _ (dpsm (same_tr s4 s5) _ _ g3)) hx
                  refine ⟨rfl, _, rfl, _, rfl, .ref ra, r, d, rfl, e4, Z.k t htm r (List.mem_of_getElem? e3), fun H7 s7 => ?_⟩
                  have z := hR H7 s7
                  rw [show t.rs.getD j ⟨Str.empty, [], 0⟩ = r by rw [List.getD_eq_getElem?_getD, e3]; rfl] at z
                  exact z
                · intro H5 sm5 hD5
                  refine ⟨D2, t.rs.map (isRead d), rfl, Or.inl (Or.inl ?_), ⟨_, rfl, ?_⟩⟩
                  · rw [hD5, hyl, ← all_range, List.map_map]
                    rfl
                  · rw [List.all_map]
                    cases h4 : t.rs.all (id ∘ isRead d) with
                    | false =>
                      rw [show t.rs.all (isRead d) = false from h4] at bad
                      exact iteT ⟨_, rfl, err_raise rfl r_InvalidSystem.err.oex r_InvalidSystem.no fun e he => bad rfl e _ (same_tr sm (same_tr s6 (same_tr sm5 (snew he)))) upd_same⟩
                    | true =>
                      rw [show t.rs.all (isRead d) = true from h4] at more
                      refine iteF ⟨some (.int (i : Int)), some (.str t.n), some (.int t.c), some (.ref l), ?_, same_tr s6 sm5, more rfl⟩
                      rw [hc]
                      have ec : (cnt (ts.take i) : Int) + (ys.length : Int) = ((cnt (ts.take i) + t.rs.length : Nat) : Int) := by omega
                      rw [← ec]
                      rfl
      · rintro σ H2 ⟨_, _, _, _, rfl, s2, good⟩
        exact q (fun i t e => good i t (by rw [hxl]; exact (List.getElem?_eq_some_iff.mp e).1) e) H2 (same_tr sm s2)
def spCRN (K : PySem.W.Frag) (CS : Addr) : Sp := fun vs H Q E => ∃ (v : V) (ts : List Tb), vs = [v] ∧ Dp K H v (.list (ts.map Tb.d)) ∧ Sz ts ∧
  (∀ (i : Nat) (t : Tb), ts[i]? = some t → rowLoose ts t = true → (∀ (j : Nat) (u : Tb), j < i → ts[j]? = some u → rowLoose ts u = false) → Outs CS H E i) ∧
  ((∀ t ∈ ts, rowLoose ts t = false) → ∀ H', Same H H' → Q .non H')
theorem ok_check_readN {f CS : Addr} {fd : FuncData} (F : Fun K "check_tables_that_are_read" "check_tables_that_are_read" s_check_tables_that_are_read f fd) (T : Txt mg) (r_InvalidSystem : MkR P w K mg base 1 "InvalidSystem" CS) : FnOk P w K mg base (L2N.CX P w) 3 f fd ["tables"] (spCRN K CS) := by
  refine fun_okN F sc_check_tables_that_are_read (fun vs H Q E h => ?_) (fun cdv A outer s H vs Q E hr h => ?_)
  · obtain ⟨v, ts, rfl, _⟩ := h
    rfl
  · obtain ⟨v, ts, rfl, hv, Z, qe, q⟩ := h
    refine ⟨_, (pss_cons (ps_set (i := 1) sc_check_tables_that_are_read.nd rfl (by first | exact Or.inl rfl | exact Or.inr rfl) (pe_lc (own := [("table", 2)]) (g := gName 2) (tt := tYes) (by rfl) sc_check_tables_that_are_read.nd (pi_list (pv 0)) (blkOk_by (N := ["tables", "names", "table", "row", "read"]) (sc := defScope s_check_tables_that_are_read) (by decide +kernel)) (fun _ _ _ _ _ => (pg_name (i := 2) sc_check_tables_that_are_read.nd rfl (by first | exact Or.inl rfl | exact Or.inr rfl))) (fun _ _ _ _ _ => pts_nil) (fun _ _ _ _ _ => (pe_ix (r := rIxT K) ix_tup (pv 2) pe_int (fun _ _ => rfl)))))
  (pss_one (ps_for (passes_of rfl) rfl (pi_enum (by rfl) T.b_enumerate (pa_cons (pv 0) pa_nil)) (pg_tup rfl (pgs_cons (pg_name (i := 3) sc_check_tables_that_are_read.nd rfl (by first | exact Or.inl rfl | exact Or.inr rfl)) (pgs_cons (pg_name (i := 2) sc_check_tables_that_are_read.nd rfl (by first | exact Or.inl rfl | exact Or.inr rfl)) pgs_nil)))
    (pss_one (ps_if (pt_not (pt_val (pe_callB (cr_all rfl) (by rfl) T.b_all (by decide +kernel) (pa_cons (pe_lc (own := [("read", 4)]) (g := gName 4) (tt := tYes) (by rfl) sc_check_tables_that_are_read.nd (pi_list (pe_ix ix_tup (pv 2) pe_int (fun _ _ => rfl))) (blkOk_by (N := ["tables", "names", "table", "row", "read"]) (sc := defScope s_check_tables_that_are_read) (by decide +kernel)) (fun _ _ _ _ _ => (pg_name (i := 4) sc_check_tables_that_are_read.nd rfl (by first | exact Or.inl rfl | exact Or.inr rfl))) (fun _ _ _ _ _ => pts_nil) (fun _ _ _ _ _ => (pe_cmpR (r := rIn K false) op_in_seq (pe_ix (r := rIxT K) ix_tup (pv 4) pe_int (fun _ _ => rfl)) (pv 1) (by rfl)))) pa_nil))))
      (pss_one (ps_errN r_InvalidSystem rfl (L2N.takes_of rfl rfl rfl rfl) hr (by decide) (by rfl) (pa_cons (pv 3) pa_nil)))
      pss_nil))))), ?_⟩
    obtain ⟨a, xs, rfl, ha, hd⟩ := dlst hv
    have hxl : xs.length = ts.length := by rw [dps_len hd, List.length_map]
    have hl1 := Z.l
    refine ⟨_, rfl, a, rfl, ⟨_, ha⟩, fun D hD => lc_flat (walk_list (K := K) (a := a) (xs := xs)) (fun i => .str (nth (ts.map (·.n)) i)) (by omega) hD (fun H' sm => sql sm ha) (fun i H x H' y => yat_same y) ?_ ?_⟩
    · rintro i x H1 H2 hi sm ⟨rfl, hx⟩ R hR
      obtain ⟨t, b, l, ys, e1, rfl, g1, _, _⟩ := tb_at (dpsm sm _ _ hd) hx
      have en : nth (ts.map (·.n)) i = t.n := nth_of (by rw [List.getElem?_map, e1]; rfl)
      refine ⟨rfl, _, rfl, b, _, 0, _, rfl, rfl, g1, rfl, ?_⟩
      have r := hR H2 same_refl
      rw [en] at r
      exact r
    · intro H1 sm hD1
      have hD1 : H1 D = some (.lst ((ts.map (·.n)).map V.str)) := by
        rw [hD1, hxl, ← nths, List.length_map]
      refine ⟨_, rfl, a, xs, rfl, sql sm ha, for_it (walk_enum (K := K) (a := a) (xs := xs)) (fun i σ H2 => ∃ y2 y3, σ = [some (.ref a), some (.ref D), y2, y3, none] ∧ Same H1 H2 ∧ ∀ (j : Nat) (u : Tb), j < i → ts[j]? = some u → rowLoose ts u = false)
        ⟨none, none, rfl, same_refl, fun j u z => absurd z (Nat.not_lt_zero _)⟩ (fun i σ H2 _ ⟨_, _, _, s2, _⟩ => sql (same_tr sm s2) ha) ?_ ?_⟩
      · rintro i x σ H2 H3 hi ⟨y2, y3, rfl, s2, good⟩ ⟨Tp, z1, z2, rfl, hT, rfl, e1, e2⟩
        cases e1
        have s3 : Same H1 (upd H2 Tp (.tup [.int (i : Nat), z2])) := same_tr s2 (snew hT)
        obtain ⟨t, b, l, ys, f1, rfl, g1, g2, g3⟩ := tb_at (dpsm (same_tr sm s3) _ _ hd) e2
        have htm : t ∈ ts := List.mem_of_getElem? f1
        have hyl : ys.length = t.rs.length := by rw [dps_len g3, List.length_map]
        have hrl := Z.r t htm
        have bad : rowLoose ts t = true → ∀ e H', Same H H' → H' e = some (.xd [(("value" : Str), .int i)]) → E (.ref CS) (some e) H' := fun b => qe i t f1 b good
        have more : rowLoose ts t = false → ∀ (j : Nat) (u : Tb), j < i + 1 → ts[j]? = some u → rowLoose ts u = false := fun b j u lt e => by
          by_cases z : j = i
          · subst z
            rw [f1] at e
            cases e
            exact b
          · exact good j u (by omega) e
        refine ⟨Tp, _, rfl, Or.inl (Or.inl upd_same), rfl, _, _, rfl, _, _, rfl, rfl, ?_⟩
        refine ⟨_, rfl, b, _, 2, _, rfl, rfl, g1, rfl, l, rfl, ⟨ys, g2⟩, fun D2 hD2 => lc_flat (walk_list (K := K) (a := l) (xs := ys)) (fun j => .bl (decide ((t.rs.getD j ⟨Str.empty, [], 0⟩).t ∈ ts.map (·.n)))) (by omega) hD2 (fun H' sm' => sql sm' g2) (fun i H x H' y => yat_same y) ?_ ?_⟩
        · rintro j x H5 H6 hj sm5 ⟨rfl, hx⟩ R hR
          obtain ⟨r, ra, rb, e3, rfl, e4, g5, _⟩ := rd_at (dpsm sm5 _ _ g3) hx
          refine ⟨rfl, _, rfl, ra, _, 0, _, rfl, rfl, g5, rfl, _, rfl, D, _, rfl, Or.inl (Or.inl (Or.inl (sm5 _ _ (s3 _ _ hD1)))), rfl, flat_strs _, ?_⟩
          have z := hR H6 same_refl
          rw [show t.rs.getD j ⟨Str.empty, [], 0⟩ = r by rw [List.getD_eq_getElem?_getD, e3]; rfl] at z
          rw [inV_dec]
          exact z
        · intro H5 sm5 hD5
          refine ⟨D2, t.rs.map (fun r => decide (r.t ∈ ts.map (·.n))), rfl, Or.inl (Or.inl ?_), ⟨_, rfl, ?_⟩⟩
          · rw [hD5, hyl, ← all_range, List.map_map]
            rfl
          · rw [List.all_map]
            unfold rowLoose at bad
            cases h4 : t.rs.all (id ∘ fun r => decide (r.t ∈ ts.map (·.n))) with
            | false =>
              rw [show (t.rs.all fun r => decide (r.t ∈ ts.map (·.n))) = false from h4] at bad
              exact iteT ⟨_, rfl, err_raise rfl r_InvalidSystem.err.oex r_InvalidSystem.no fun e he => bad rfl e _ (same_tr sm (same_tr s3 (same_tr sm5 (snew he)))) upd_same⟩
            | true =>
              have g := more (by unfold rowLoose; rw [show (t.rs.all fun r => decide (r.t ∈ ts.map (·.n))) = true from h4]; rfl)
              exact iteF ⟨some (.ref b), some (.int (i : Int)), rfl, same_tr s3 sm5, g⟩
      · rintro σ H2 ⟨_, _, rfl, s2, good⟩
        refine q (fun t ht => ?_) H2 (same_tr sm s2)
        obtain ⟨i, hi⟩ := List.mem_iff_getElem?.mp ht
        exact good i t (by rw [hxl]; exact (List.getElem?_eq_some_iff.mp hi).1) hi
/-- what a call of check_system finds: (true, n) for InvalidNumber(n), (false, n) for InvalidSystem(n), in the order of the document -/
inductive Fault (d : Int) (ts : List Tb) (m : Int) : Bool → Int → Prop where
  | dims : ¬ (1 ≤ d ∧ d ≤ 3) → Fault d ts m true d
  | many : 1 ≤ d → d ≤ 3 → ¬ (1 ≤ ts.length ∧ ts.length ≤ 6) → Fault d ts m false (-1)
  | bad (i : Nat) (t : Tb) : 1 ≤ d → d ≤ 3 → 1 ≤ ts.length → ts.length ≤ 6 → ts[i]? = some t → rowBad d ts i t = true → (∀ (j : Nat) (u : Tb), j < i → ts[j]? = some u → rowBad d ts j u = false) → Fault d ts m false i
  | loose (i : Nat) (t : Tb) : 1 ≤ d → d ≤ 3 → 1 ≤ ts.length → ts.length ≤ 6 → (∀ (j : Nat) (u : Tb), ts[j]? = some u → rowBad d ts j u = false) → ts[i]? = some t → rowLoose ts t = true → (∀ (j : Nat) (u : Tb), j < i → ts[j]? = some u → rowLoose ts u = false) → Fault d ts m false i
  | mod : 1 ≤ d → d ≤ 3 → 1 ≤ ts.length → ts.length ≤ 6 → (∀ (j : Nat) (u : Tb), ts[j]? = some u → rowBad d ts j u = false) → (∀ t ∈ ts, rowLoose ts t = false) → m < 2 → Fault d ts m true m
/-- there is no fault -/
structure Fine (d : Int) (ts : List Tb) (m : Int) : Prop where
  d1 : 1 ≤ d
  d3 : d ≤ 3
  l1 : 1 ≤ ts.length
  l6 : ts.length ≤ 6
  ok : ∀ (j : Nat) (u : Tb), ts[j]? = some u → rowBad d ts j u = false
  tied : ∀ t ∈ ts, rowLoose ts t = false
  m2 : 2 ≤ m
def spCSN (K : PySem.W.Frag) (CN CS : Addr) : Sp := fun vs H Q E => ∃ (d m : Int) (v : V) (ts : List Tb), vs = [.int d, v, .int m] ∧ Dp K H v (.list (ts.map Tb.d)) ∧ Sz ts ∧
  (∀ b n, Fault d ts m b n → Outs (if b = true then CN else CS) H E n) ∧ (Fine d ts m → ∀ H', Same H H' → Q .non H')
theorem ok_check_systemN {f CN CS : Addr} {fd : FuncData} (F : Fun K "check_system" "check_system" s_check_system f fd) (T : Txt mg) (x_check_tables : CalN P w K mg base 3 "check_tables" (spCTN K CS)) (x_check_tables_that_are_read : CalN P w K mg base 3 "check_tables_that_are_read" (spCRN K CS)) (r_InvalidSystem : MkR P w K mg base 1 "InvalidSystem" CS) (r_InvalidNumber : MkR P w K mg base 1 "InvalidNumber" CN) :
    FnOk P w K mg base (L2N.CX P w) 4 f fd ["dimensions", "tables", "modulus"] (spCSN K CN CS) := by
  refine fun_okN F sc_check_system (fun vs H Q E h => ?_) (fun cdv A outer s H vs Q E hr h => ?_)
  · obtain ⟨d, m, v, ts, rfl, _⟩ := h
    rfl
  · obtain ⟨d, m, v, ts, rfl, hv, Z, qe, q⟩ := h
    refine ⟨_, (pss_cons (ps_if (pt_not (pt_chain op_le op_le pe_int (pv 0) (C8.pe_gc (by rfl) T.g_MOST_DIMENSIONS)))
    (pss_one (ps_errN r_InvalidNumber rfl (L2N.takes_of rfl rfl rfl rfl) hr (by decide) (by rfl) (pa_cons (pv 0) pa_nil)))
    pss_nil)
  (pss_cons (ps_if (pt_not (pt_chain op_le op_le pe_int (pe_callB call_len_seq (by rfl) T.b_len PySem.boot_len (pa_cons (pv 1) pa_nil)) (C8.pe_gc (by rfl) T.g_MOST_TABLES)))
    (pss_one (ps_errN r_InvalidSystem rfl (L2N.takes_of rfl rfl rfl rfl) hr (by decide) (by rfl) (pa_cons (pe_un un_neg pe_int) pa_nil)))
    pss_nil)
  (pss_cons (ps_expr (pe_cN x_check_tables hr (by decide) (by rfl) (L2N.takes_of rfl rfl rfl rfl) (pa_cons (pv 0) (pa_cons (pv 1) pa_nil))))
  (pss_cons (ps_expr (pe_cN x_check_tables_that_are_read hr (by decide) (by rfl) (L2N.takes_of rfl rfl rfl rfl) (pa_cons (pv 1) pa_nil)))
  (pss_one (ps_if (pt_cmpR op_lt (pv 2) pe_int (nomark _))
    (pss_one (ps_errN r_InvalidNumber rfl (L2N.takes_of rfl rfl rfl rfl) hr (by decide) (by rfl) (pa_cons (pv 2) pa_nil)))
    pss_nil)))))), ?_⟩
    obtain ⟨a, xs, rfl, ha, hd⟩ := dlst hv
    have hxl : xs.length = ts.length := by rw [dps_len hd, List.length_map]
    have num : ∀ {n : Int}, Fault d ts m true n → Outs CN H E n := fun f => by
      have z := qe true _ f
      rw [if_pos rfl] at z
      exact z
    have sys : ∀ {n : Int}, Fault d ts m false n → Outs CS H E n := fun f => by
      have z := qe false _ f
      rw [if_neg Bool.false_ne_true] at z
      exact z
    refine ⟨_, rfl, 1, d, rfl, rfl, decide (1 ≤ d), rfl, ?_⟩
    by_cases h1 : 1 ≤ d
    · rw [decide_eq_true h1]
      refine iteT ⟨d, 3, rfl, rfl, decide (d ≤ 3), rfl, ?_⟩
      by_cases h3 : d ≤ 3
      · rw [decide_eq_true h3]
        refine iteF ⟨_, rfl, a, xs, rfl, Or.inl ha, 1, _, rfl, rfl, decide (1 ≤ (xs.length : Int)), rfl, ?_⟩
        by_cases h4 : 1 ≤ ts.length
        · rw [decide_eq_true (by omega)]
          refine iteT ⟨_, 6, rfl, rfl, decide ((xs.length : Int) ≤ 6), rfl, ?_⟩
          by_cases h5 : ts.length ≤ 6
          · rw [decide_eq_true (by omega)]
            refine iteF ⟨_, rfl, _, rfl, d, .ref a, ts, rfl, hv, Z, fun i t e1 b g => sys (.bad i t h1 h3 h4 h5 e1 b g), fun ok H1 s1 => ?_⟩
            refine ⟨_, rfl, .ref a, ts, rfl, dpm s1 _ _ hv, Z, fun i t e1 b g e H' s2 he => sys (.loose i t h1 h3 h4 h5 (fun j u z => ok j u z) e1 b g) e H' (same_tr s1 s2) he, fun tied H2 s2 => ?_⟩
            refine ⟨_, rfl, m, 2, rfl, rfl, decide (m < 2), rfl, ?_⟩
            by_cases h6 : m < 2
            · rw [decide_eq_true h6]
              exact iteT ⟨_, rfl, err_raise rfl r_InvalidNumber.err.oex r_InvalidNumber.no fun e he => num (.mod h1 h3 h4 h5 (fun j u z => ok j u z) tied h6) e _ (same_tr s1 (same_tr s2 (snew he))) upd_same⟩
            · rw [decide_eq_false h6]
              exact iteF (q ⟨h1, h3, h4, h5, fun j u z => ok j u z, tied, by omega⟩ H2 (same_tr s1 s2))
          · rw [decide_eq_false (by omega)]
            refine iteT ?_
            exact ⟨_, rfl, err_raise rfl r_InvalidSystem.err.oex r_InvalidSystem.no fun e he => sys (.many h1 h3 (fun z => h5 z.2)) e _ (snew he) upd_same⟩
        · rw [decide_eq_false (by omega)]
          refine iteF ⟨false, rfl, iteT ?_⟩
          exact ⟨_, rfl, err_raise rfl r_InvalidSystem.err.oex r_InvalidSystem.no fun e he => sys (.many h1 h3 (fun z => h4 z.1)) e _ (snew he) upd_same⟩
      · rw [decide_eq_false h3]
        refine iteT ?_
        exact ⟨_, rfl, err_raise rfl r_InvalidNumber.err.oex r_InvalidNumber.no fun e he => num (.dims (fun z => h3 z.2)) e _ (snew he) upd_same⟩
    · rw [decide_eq_false h1]
      refine iteF ⟨false, rfl, iteT ?_⟩
      exact ⟨_, rfl, err_raise rfl r_InvalidNumber.err.oex r_InvalidNumber.no fun e he => num (.dims (fun z => h1 z.1)) e _ (snew he) upd_same⟩
end
end Fr

namespace Fr
open PySem PySem.Spec PyProof.Rows L2
section
variable {P : Program} {w : World} {K : PySem.W.Frag} {mg : Str → Option Value} {base : Heap}
theorem FunC.okN {x qual : Str} {st : Stmt} {f c : Addr} {fd : FuncData} {N ps : List Str} {k : Nat} {sp : Sp} (F : FunC K x qual st f fd c) (S : FnScope N ps (defScope st)) (len : ∀ vs H Q E, sp vs H Q E → vs.length = ps.length)
    (hbody : ∀ (A : Around) (outer : List Env) (s : Shared) (H : Hp) (vs : List V) (Q : VK) (E : XK), Room k (A.deeper (envOfC qual (defScope st) s.heap.objs.size f (.ref c))) → sp vs H Q E →
      ∃ t, PSs (cxOf (L2N.CX P w) P w K mg base N qual (defScope st) f (.ref c) A outer s H E) (defBody st) t ∧ t { nx := fun _ H' => Q .non H', rt := Q } (start N vs) H) : FnOk P w K mg base (L2N.CX P w) (k + 1) f fd ps sp := by
  obtain ⟨oc, od, dV, kV, doc, pm, an, ct, osl, rfl, lk, hcd⟩ := F.ex
  exact fn_of lk hcd S len fun A outer s H vs Q E hr hsp => hbody A outer s H vs Q E hr hsp
def spInitX (K : PySem.W.Frag) (CN CS : Addr) : Sp := fun vs H Q E => ∃ (s : Addr) (d m n : Int) (v : V) (ts : List Tb) (b : Bool), vs = [.ref s, .int d, v, .int m] ∧ Dp K H v (.list (ts.map Tb.d)) ∧ Sz ts ∧ Fault d ts m b n ∧ Outs (if b = true then CN else CS) H E n
theorem fault_sure {d : Int} {ts : List Tb} {m n : Int} {b : Bool} (h : Fault d ts m b n) (g : Fine d ts m) : False := by
  cases h with
  | dims z => exact z ⟨g.d1, g.d3⟩
  | many _ _ z => exact z ⟨g.l1, g.l6⟩
  | bad i t _ _ _ _ e z _ =>
    rw [g.ok i t e] at z
    cases z
  | loose i t _ _ _ _ _ e z _ =>
    rw [g.tied t (List.mem_of_getElem? e)] at z
    cases z
  | mod _ _ _ _ _ _ z => have := g.m2; omega
theorem fault_two {d : Int} {ts : List Tb} {m n n' : Int} {b b' : Bool} (h : Fault d ts m b n) (g : Fault d ts m b' n') : b' = b ∧ n' = n := by
  have un : ∀ {p : Nat → Tb → Bool} {i i' : Nat} {t t' : Tb}, ts[i]? = some t → ts[i']? = some t' → p i t = true → p i' t' = true → (∀ j u, j < i → ts[j]? = some u → p j u = false) → (∀ j u, j < i' → ts[j]? = some u → p j u = false) → i' = i := fun {p i i' t t'} e e' z z' k k' => by
    refine Decidable.byContradiction fun ne => ?_
    rcases Nat.lt_or_gt_of_ne ne with lt | lt
    · rw [k _ _ lt e'] at z'
      cases z'
    · rw [k' _ _ lt e] at z
      cases z
  cases h with
  | dims z =>
    cases g with
    | dims _ => exact ⟨rfl, rfl⟩
    | many a b _ => exact absurd ⟨a, b⟩ z
    | bad _ _ a b => exact absurd ⟨a, b⟩ z
    | loose _ _ a b => exact absurd ⟨a, b⟩ z
    | mod a b => exact absurd ⟨a, b⟩ z
  | many a1 b1 z =>
    cases g with
    | dims y => exact absurd ⟨a1, b1⟩ y
    | many _ _ _ => exact ⟨rfl, rfl⟩
    | bad _ _ _ _ a b => exact absurd ⟨a, b⟩ z
    | loose _ _ _ _ a b => exact absurd ⟨a, b⟩ z
    | mod _ _ a b => exact absurd ⟨a, b⟩ z
  | bad i t a1 b1 l1 l6 e z k =>
    cases g with
    | dims y => exact absurd ⟨a1, b1⟩ y
    | many _ _ y => exact absurd ⟨l1, l6⟩ y
    | bad i' t' _ _ _ _ e' z' k' => exact ⟨rfl, by rw [un (p := rowBad d ts) e e' z z' k k']⟩
    | loose _ _ _ _ _ _ y _ _ _ =>
      rw [y i t e] at z
      cases z
    | mod _ _ _ _ y _ _ =>
      rw [y i t e] at z
      cases z
  | loose i t a1 b1 l1 l6 g1 e z k =>
    cases g with
    | dims y => exact absurd ⟨a1, b1⟩ y
    | many _ _ y => exact absurd ⟨l1, l6⟩ y
    | bad i' t' _ _ _ _ e' z' _ =>
      rw [g1 i' t' e'] at z'
      cases z'
    | loose i' t' _ _ _ _ _ e' z' k' => exact ⟨rfl, by rw [un (p := fun _ u => rowLoose ts u) e e' z z' k k']⟩
    | mod _ _ _ _ _ y _ =>
      rw [y t (List.mem_of_getElem? e)] at z
      cases z
  | mod a1 b1 l1 l6 g1 g2 z =>
    cases g with
    | dims y => exact absurd ⟨a1, b1⟩ y
    | many _ _ y => exact absurd ⟨l1, l6⟩ y
    | bad i' t' _ _ _ _ e' z' _ =>
      rw [g1 i' t' e'] at z'
      cases z'
    | loose i' t' _ _ _ _ _ e' z' _ =>
      rw [g2 t' (List.mem_of_getElem? e')] at z'
      cases z'
    | mod _ _ _ _ _ _ _ => exact ⟨rfl, rfl⟩
theorem ok_initX {f C CN CS c Pt : Addr} {fd : FuncData} {TT : List (Addr × Str)} (F : FunC K "__init__" "System.__init__" s_System_init f fd c) (T : Txt mg) (TC : TxtC K mg C) (x_check_system : CalN P w K mg base 4 "check_system" (spCSN K CN CS))
    (TBc : LamX.TabB base mg c Pt) (hmT : (Pt, ("System.__init__.<locals>.<lambda>" : Str)) ∈ TT) (huT : ∀ p ∈ TT, p.1 = Pt → p.2 = ("System.__init__.<locals>.<lambda>" : Str)) : FnOk P w K mg base (L2N.CX P w) 5 f fd ["self", "dimensions", "tables", "modulus"] (spInitX K CN CS) := by
  refine F.okN sc_System_init (fun vs H Q E h => ?_) (fun A outer sh H vs Q E hr h => ?_)
  · obtain ⟨s, d, m, n, v, ts, b, rfl, _⟩ := h
    rfl
  · obtain ⟨s, d, m, n, v, ts, b, rfl, hv, Z, fa, q⟩ := h
    have hu := hu_of hr
    have hcode : (cxOf (L2N.CX P w) P w K mg base ["self", "dimensions", "tables", "modulus", "rows", "name", "constant", "reads"] "System.__init__" (defScope s_System_init) f (.ref c) A outer sh H E).env.code = .ref c := rfl
    refine ⟨_, (pss_cons (ps_expr (pe_cN x_check_system hr (by decide) (by rfl) (L2N.takes_of rfl rfl rfl rfl) (pa_cons (pv 1) (pa_cons (pv 2) (pa_cons (pv 3) pa_nil)))))
  (pss_cons (ps_fld (pv 0) (pv 1) rfl)
  (pss_cons (ps_fld (pv 0) (pv 3) rfl)
  (pss_cons (ps_set (i := 4) sc_System_init.nd rfl (by first | exact Or.inl rfl | exact Or.inr rfl) (pe_sortKey Tb.n (a := "table") (by rfl) T.b_sorted (pv 2) hr TBc hcode hmT huT rfl ⟨rfl, rfl, rfl, rfl, by decide +kernel, by decide +kernel⟩ (by decide) (fun _ _ _ _ _ _ => rfl)))
  (pss_one (ps_fld (pv 0) (pe_dc (own := [("name", 5), ("constant", 6), ("reads", 7)]) (g := gTup K 3 (gCons (gName 5) (gCons (gName 6) (gCons (gName 7) gNil)))) (tt := tYes) (by rfl) sc_System_init.nd (pi_list (pv 4)) (blkOk_by (N := ["self", "dimensions", "tables", "modulus", "rows", "name", "constant", "reads"]) (sc := defScope s_System_init) (by decide +kernel)) (fun _ _ _ _ _ => (pg_tup rfl (pgs_cons (pg_name (i := 5) sc_System_init.nd rfl (by first | exact Or.inl rfl | exact Or.inr rfl)) (pgs_cons (pg_name (i := 6) sc_System_init.nd rfl (by first | exact Or.inl rfl | exact Or.inr rfl)) (pgs_cons (pg_name (i := 7) sc_System_init.nd rfl (by first | exact Or.inl rfl | exact Or.inr rfl)) pgs_nil))))) (fun _ _ _ _ _ => pts_nil) (fun _ _ _ _ _ => (pv 5)) (fun _ _ _ _ _ => (pe_tup (pa_cons (pv 6) (pa_cons (pe_callTy (r := rTupS K) call_tuple_of (by rfl) T.b_tuple (by decide +kernel) (pa_cons (pv 7) pa_nil)) pa_nil))))) rfl)))))), ?_⟩
    exact ⟨_, rfl, _, rfl, _, rfl, d, m, v, ts, rfl, hv, Z, fun b' n' g => by
      obtain ⟨rfl, rfl⟩ := fault_two fa g
      exact q, fun g => (fault_sure fa g).elim⟩
theorem fine_or (d : Int) (ts : List Tb) (m : Int) : Fine d ts m ∨ ∃ b n, Fault d ts m b n := by
  have fst : ∀ p : Nat → Tb → Bool, (∀ j u, ts[j]? = some u → p j u = false) ∨ ∃ i t, ts[i]? = some t ∧ p i t = true ∧ ∀ j u, j < i → ts[j]? = some u → p j u = false := fun p => by
    have all : ∀ n : Nat, (∀ j u, j < n → ts[j]? = some u → p j u = false) ∨ ∃ i t, ts[i]? = some t ∧ p i t = true ∧ ∀ j u, j < i → ts[j]? = some u → p j u = false := fun n => by
      induction n with
      | zero => exact .inl fun j u z => absurd z (Nat.not_lt_zero _)
      | succ n ih =>
        rcases ih with ih | ih
        · cases e : ts[n]? with
          | none =>
            refine .inl fun j u lt z => ?_
            by_cases h : j = n
            · rw [h, e] at z
              cases z
            · exact ih j u (by omega) z
          | some t =>
            cases h : p n t with
            | true => exact .inr ⟨n, t, e, h, ih⟩
            | false =>
              refine .inl fun j u lt z => ?_
              by_cases h1 : j = n
              · rw [h1, e] at z
                cases z
                rw [h1]
                exact h
              · exact ih j u (by omega) z
        · exact .inr ih
    rcases all ts.length with z | z
    · exact .inl fun j u e => z j u (List.getElem?_eq_some_iff.mp e).1 e
    · exact .inr z
  by_cases h1 : 1 ≤ d ∧ d ≤ 3
  · by_cases h2 : 1 ≤ ts.length ∧ ts.length ≤ 6
    · rcases fst (rowBad d ts) with g1 | ⟨i, t, e, z, k⟩
      · rcases fst (fun _ u => rowLoose ts u) with g2 | ⟨i, t, e, z, k⟩
        · by_cases h3 : m < 2
          · exact .inr ⟨_, _, .mod h1.1 h1.2 h2.1 h2.2 g1 (fun t ht => by
              obtain ⟨i, hi⟩ := List.mem_iff_getElem?.mp ht
              exact g2 i t hi) h3⟩
          · exact .inl ⟨h1.1, h1.2, h2.1, h2.2, g1, fun t ht => by
              obtain ⟨i, hi⟩ := List.mem_iff_getElem?.mp ht
              exact g2 i t hi, by omega⟩
        · exact .inr ⟨_, _, .loose i t h1.1 h1.2 h2.1 h2.2 g1 e z k⟩
      · exact .inr ⟨_, _, .bad i t h1.1 h1.2 h2.1 h2.2 e z k⟩
    · exact .inr ⟨_, _, .many h1.1 h1.2 h2⟩
  · exact .inr ⟨_, _, .dims h1⟩
/-- a system without a fault -/
theorem Fine.sys {d : Int} {ts : List Tb} {m : Int} (g : Fine d ts m) : OkSys d m ts := by
  have row : ∀ i t, ts[i]? = some t → isName t.n = true ∧ t.n ∉ (ts.map (·.n)).take i ∧ ¬ 12 < cnt (ts.take (i + 1)) ∧ ∀ r ∈ t.rs, isRead d r = true := fun i t e => by
    have z := g.ok i t e
    unfold rowBad at z
    simp only [Bool.or_eq_false_iff, Bool.not_eq_false', decide_eq_false_iff_not, List.all_eq_true] at z
    exact ⟨z.1, z.2.1, z.2.2.1, z.2.2.2⟩
  have at_ : ∀ t ∈ ts, ∃ i, ts[i]? = some t := fun t ht => List.mem_iff_getElem?.mp ht
  refine ⟨g.d1, g.d3, g.m2, g.l1, g.l6, fun t ht => ?_, ?_, ?_, fun t ht => ?_, fun t ht r hr => ?_⟩
  · obtain ⟨i, e⟩ := at_ t ht
    exact (row i t e).1
  · refine List.pairwise_iff_getElem.mpr fun i j hi hj lt e => ?_
    rw [List.getElem_map, List.getElem_map] at e
    have hj2 : j < ts.length := by simpa using hj
    have hi2 : i < ts.length := by simpa using hi
    refine (row j _ (List.getElem?_eq_getElem hj2)).2.1 (List.mem_iff_getElem?.mpr ⟨i, ?_⟩)
    rw [List.getElem?_take_of_lt lt, List.getElem?_map, List.getElem?_eq_getElem hi2]
    exact congrArg some e
  · have l := g.l1
    obtain ⟨t, ht⟩ : ∃ t, ts[ts.length - 1]? = some t := ⟨_, List.getElem?_eq_getElem (by omega)⟩
    have z := (row _ t ht).2.2.1
    rw [Nat.sub_add_cancel l, List.take_length] at z
    unfold cnt at z
    omega
  · obtain ⟨i, e⟩ := at_ t ht
    exact (row i t e).2.2.2
  · have z := g.tied t ht
    unfold rowLoose at z
    simp only [Bool.not_eq_false', List.all_eq_true, decide_eq_true_eq] at z
    exact z r hr
end
end Fr

namespace Fr
open PySem PySem.Spec PyProof.Rows L2 HotX L2H
abbrev s_Lcaught : Stmt := topS 34
theorem sc_Lcaught : FnScope ["_law_e", "_law_some", "_law_words", "_law_word", "_law_so"] ["_law_e"] (defScope s_Lcaught) := ⟨rfl, rfl, rfl, by decide +kernel, rfl, by decide +kernel, by decide +kernel⟩
-- slots: 0 _law_e, 1 _law_some, 2 _law_words, 3 _law_word, 4 _law_so
structure TxX (mg : Str → Option Value) (c : Nat → Addr) : Prop where
  b_ValueError : mg "ValueError" = none
  g_InvalidSystem : mg "InvalidSystem" = some (.ref (c 0))
  g_InvalidName : mg "InvalidName" = some (.ref (c 1))
  g_InvalidAxes : mg "InvalidAxes" = some (.ref (c 2))
  g_UnknownTable : mg "UnknownTable" = some (.ref (c 3))
  g_InvalidCell : mg "InvalidCell" = some (.ref (c 4))
  g_InvalidRead : mg "InvalidRead" = some (.ref (c 5))
  g_InvalidShifts : mg "InvalidShifts" = some (.ref (c 6))
  g_InvalidNumber : mg "InvalidNumber" = some (.ref (c 7))
  g_NotReady : mg "NotReady" = some (.ref (c 8))
  g_NoFar : mg "NoFar" = some (.ref (c 9))
  g_NothingToUndo : mg "NothingToUndo" = some (.ref (c 10))
  g_Unreadable : mg "Unreadable" = some (.ref (c 11))
  g_ReadError : mg "ReadError" = some (.ref (c 12))
theorem relvTy (s : String) : RelV (.ty s) (.type s) := rfl
/-- what is asked of the classes of an error -/
structure KitE (K : PySem.W.Frag) (c : Nat → Addr) (i : Nat) : Prop where
  own : ∀ j, j < 13 → PySem.W.kitOne K (.ref (c i)) (.ref (c j)) = some (decide (j = i) || decide (j = 12))
  val : PySem.W.kitOne K (.ref (c i)) (.type "ValueError") = some true
def PrsE (H : Hp) (xs : List V) (ps : List (Str × Bool)) : Prop := Paired (fun (v : V) (p : Str × Bool) => ∃ q, v = .ref q ∧ H q = some (.tup [.str p.1, .bl p.2])) xs ps
theorem PrsE.mono {H H' : Hp} {xs : List V} {ps : List (Str × Bool)} (h : PrsE H xs ps) (e : Same H H') : PrsE H' xs ps := _root_.L2.Paired.mapP h fun _ _ ⟨q, z1, z2⟩ => ⟨q, z1, e _ _ z2⟩
theorem PrsE.snoc {H : Hp} {xs : List V} {ps : List (Str × Bool)} {q : Addr} {x : Str} {z : Bool} (h : PrsE H xs ps) (e : H q = some (.tup [.str x, .bl z])) : PrsE H (xs ++ [.ref q]) (ps ++ [(x, z)]) := by
  unfold PrsE at h ⊢
  induction h with
  | nil => exact .cons ⟨q, rfl, e⟩ .nil
  | cons h1 h2 ih => exact .cons h1 ih
theorem PrsE.get {H : Hp} {xs : List V} {ps : List (Str × Bool)} (h : PrsE H xs ps) : ∀ {i : Nat} {x : V}, xs[i]? = some x → ∃ p q, ps[i]? = some p ∧ x = .ref q ∧ H q = some (.tup [.str p.1, .bl p.2]) := by
  unfold PrsE at h
  induction h with
  | nil => intro i x e; cases e
  | cons h1 h2 ih =>
    intro i x e
    cases i with
    | zero =>
      cases e
      obtain ⟨q, rfl, hq⟩ := h1
      exact ⟨_, q, rfl, rfl, hq⟩
    | succ i => exact ih e
/-- the classes and the words, as they are asked -/
def askC : List (Str × Nat) := [("number", 7), ("system", 0), ("name", 1), ("axes", 2), ("table", 3), ("cell", 4), ("read", 5), ("shifts", 6), ("ready", 8), ("far", 9), ("undo", 10), ("text", 11)]
def wordC (i : Nat) : Str := (((askC.filter fun p => decide (p.2 = i)).map (·.1))[0]?).getD "odd"
theorem ask_one : ∀ i ∈ List.range 12, (askC.filter fun p => decide (p.2 = i)).map (·.1) = [wordC i] := by decide +kernel
section
variable {P : Program} {w : World} {K : PySem.W.Frag} {mg : Str → Option Value} {base : Heap} {c : Nat → Addr}
def spCaught (K : PySem.W.Frag) (c : Nat → Addr) : SpE := fun a cls d H Q => ∃ (i : Nat) (dd : Addr) (y : V), i < 12 ∧ cls = .ref (c i) ∧ d = some dd ∧ H dd = some (.xd [(("value" : Str), y)]) ∧ ErrC K (c i) ∧ KitE K c i ∧ PySem.W.findIn K (.ref (c i)) "value" = some none ∧ ∀ l H', Same H H' → H' l = some (.tup [.str (wordC i), y]) → Q (.ref l) H'
theorem ok_caught {f : Addr} {fd : FuncData} (F : Fun K "_law_caught" "_law_caught" s_Lcaught f fd) (T : Txt mg) (TE : TxX mg c) (zi : mg "isinstance" = none) : FnE P w K mg base 1 f fd "_law_e" (spCaught K c) := by
  refine Fun_okE F sc_Lcaught fun cd A outer sh H a oe cls d Q he hot hr h => ?_
  obtain ⟨i, dd, y, hi, rfl, rfl, hd, EC, KE, no, q⟩ := h
  refine ⟨_, (pss_cons (ps_set (i := 1) sc_Lcaught.nd rfl (by first | exact Or.inl rfl | exact Or.inr rfl) (pe_lst (pa_cons (pe_tup (pa_cons pe_str (pa_cons (pe_callB (call_isP he (List.mem_cons_self ..)) (by rfl) zi (by decide +kernel) (pa_cons (pv 0) (pa_cons (pe_glob (v := .ref (c 7)) (by rfl) TE.g_InvalidNumber rfl) pa_nil))) pa_nil))) (pa_cons (pe_tup (pa_cons pe_str (pa_cons (pe_callB (call_isP he (List.mem_cons_self ..)) (by rfl) zi (by decide +kernel) (pa_cons (pv 0) (pa_cons (pe_glob (v := .ref (c 0)) (by rfl) TE.g_InvalidSystem rfl) pa_nil))) pa_nil))) pa_nil))))
  (pss_cons (ps_set (i := 1) sc_Lcaught.nd rfl (by first | exact Or.inl rfl | exact Or.inr rfl) (pe_op op_cat (pv 1) (pe_lst (pa_cons (pe_tup (pa_cons pe_str (pa_cons (pe_callB (call_isP he (List.mem_cons_self ..)) (by rfl) zi (by decide +kernel) (pa_cons (pv 0) (pa_cons (pe_glob (v := .ref (c 1)) (by rfl) TE.g_InvalidName rfl) pa_nil))) pa_nil))) (pa_cons (pe_tup (pa_cons pe_str (pa_cons (pe_callB (call_isP he (List.mem_cons_self ..)) (by rfl) zi (by decide +kernel) (pa_cons (pv 0) (pa_cons (pe_glob (v := .ref (c 2)) (by rfl) TE.g_InvalidAxes rfl) pa_nil))) pa_nil))) pa_nil)))))
  (pss_cons (ps_set (i := 1) sc_Lcaught.nd rfl (by first | exact Or.inl rfl | exact Or.inr rfl) (pe_op op_cat (pv 1) (pe_lst (pa_cons (pe_tup (pa_cons pe_str (pa_cons (pe_callB (call_isP he (List.mem_cons_self ..)) (by rfl) zi (by decide +kernel) (pa_cons (pv 0) (pa_cons (pe_glob (v := .ref (c 3)) (by rfl) TE.g_UnknownTable rfl) pa_nil))) pa_nil))) (pa_cons (pe_tup (pa_cons pe_str (pa_cons (pe_callB (call_isP he (List.mem_cons_self ..)) (by rfl) zi (by decide +kernel) (pa_cons (pv 0) (pa_cons (pe_glob (v := .ref (c 4)) (by rfl) TE.g_InvalidCell rfl) pa_nil))) pa_nil))) pa_nil)))))
  (pss_cons (ps_set (i := 1) sc_Lcaught.nd rfl (by first | exact Or.inl rfl | exact Or.inr rfl) (pe_op op_cat (pv 1) (pe_lst (pa_cons (pe_tup (pa_cons pe_str (pa_cons (pe_callB (call_isP he (List.mem_cons_self ..)) (by rfl) zi (by decide +kernel) (pa_cons (pv 0) (pa_cons (pe_glob (v := .ref (c 5)) (by rfl) TE.g_InvalidRead rfl) pa_nil))) pa_nil))) (pa_cons (pe_tup (pa_cons pe_str (pa_cons (pe_callB (call_isP he (List.mem_cons_self ..)) (by rfl) zi (by decide +kernel) (pa_cons (pv 0) (pa_cons (pe_glob (v := .ref (c 6)) (by rfl) TE.g_InvalidShifts rfl) pa_nil))) pa_nil))) pa_nil)))))
  (pss_cons (ps_set (i := 1) sc_Lcaught.nd rfl (by first | exact Or.inl rfl | exact Or.inr rfl) (pe_op op_cat (pv 1) (pe_lst (pa_cons (pe_tup (pa_cons pe_str (pa_cons (pe_callB (call_isP he (List.mem_cons_self ..)) (by rfl) zi (by decide +kernel) (pa_cons (pv 0) (pa_cons (pe_glob (v := .ref (c 8)) (by rfl) TE.g_NotReady rfl) pa_nil))) pa_nil))) (pa_cons (pe_tup (pa_cons pe_str (pa_cons (pe_callB (call_isP he (List.mem_cons_self ..)) (by rfl) zi (by decide +kernel) (pa_cons (pv 0) (pa_cons (pe_glob (v := .ref (c 9)) (by rfl) TE.g_NoFar rfl) pa_nil))) pa_nil))) pa_nil)))))
  (pss_cons (ps_set (i := 1) sc_Lcaught.nd rfl (by first | exact Or.inl rfl | exact Or.inr rfl) (pe_op op_cat (pv 1) (pe_lst (pa_cons (pe_tup (pa_cons pe_str (pa_cons (pe_callB (call_isP he (List.mem_cons_self ..)) (by rfl) zi (by decide +kernel) (pa_cons (pv 0) (pa_cons (pe_glob (v := .ref (c 10)) (by rfl) TE.g_NothingToUndo rfl) pa_nil))) pa_nil))) (pa_cons (pe_tup (pa_cons pe_str (pa_cons (pe_callB (call_isP he (List.mem_cons_self ..)) (by rfl) zi (by decide +kernel) (pa_cons (pv 0) (pa_cons (pe_glob (v := .ref (c 11)) (by rfl) TE.g_Unreadable rfl) pa_nil))) pa_nil))) pa_nil)))))
  (pss_cons (ps_setLcH (i := 2) (own := [("_law_word", 3), ("_law_so", 4)]) (g := gTup K 2 (gCons (gName 3) (gCons (gName 4) gNil))) hot sc_Lcaught.nd rfl rfl (sw_true rfl rfl rfl (by decide +kernel)) (pi_listH (pv 1)) (blkOk_by (N := ["_law_e", "_law_some", "_law_words", "_law_word", "_law_so"]) (sc := defScope s_Lcaught) (by decide +kernel)) (fun _ _ _ _ _ _ hotB => (pg_tupH hotB (pgs_cons (pg_name (i := 3) sc_Lcaught.nd rfl (by first | exact Or.inl rfl | exact Or.inr rfl)) (pgs_cons (pg_name (i := 4) sc_Lcaught.nd rfl (by first | exact Or.inl rfl | exact Or.inr rfl)) pgs_nil)))) (fun _ _ _ _ _ _ => (pts_one (pt_val (pv 4)))) (fun _ _ _ _ _ _ => (pv 3)))
  (pss_one (ps_ret (pe_ifExp (PW.pt (pw_and (pt_cmpR op_eq (pe_callB call_len_seq (by rfl) T.b_len PySem.boot_len (pa_cons (pv 2) pa_nil)) pe_int (nomark _)) (pw_and1 (pt_val (pe_callB (call_isP he (List.mem_cons_self ..)) (by rfl) zi (by decide +kernel) (pa_cons (pv 0) (pa_cons (pe_bltn (by rfl) TE.b_ValueError (by decide +kernel) (relvTy "ValueError")) pa_nil))))))) (pe_tup (pa_cons (pe_ix ix_list (pv 2) pe_int (fun _ _ => rfl)) (pa_cons (pe_errP he (List.mem_cons_self ..) (pv 0)) pa_nil))) pe_str)))))))))), ?_⟩
  have z3 : 2 ≤ sizeLine := by decide
  obtain ⟨b, hb⟩ : ∃ b : Nat → Bool, b = fun j => decide (j = i) || decide (j = 12) := ⟨_, rfl⟩
  have hk : ∀ j, j < 13 → PySem.W.kitOne K (.ref (c i)) (.ref (c j)) = some (b j) := by rw [hb]; exact KE.own
  have P0 : PrsE H [] [] := .nil
  have s0 : Same H H := same_refl
  have d0 := hd
  refine ⟨_, rfl, c i, dd, _, _, _, b 7, rfl, rfl, rfl, d0, EC, .own _, hk 7 (by decide), z3, fun p np => ?_⟩
  have sp := snew (o := HO.tup [.str "number", .bl (b 7)]) np
  have P1 := (P0.mono sp).snoc (upd_same (H := H) (a := p) (o := HO.tup [.str "number", .bl (b 7)]))
  have dp := sp _ _ d0
  have sq := same_tr s0 sp
  generalize upd H p (.tup [.str "number", .bl (b 7)]) = Hp0 at np sp P1 dp sq ⊢
  clear P0 s0 d0 sp np
  refine ⟨_, rfl, c i, dd, _, _, _, b 0, rfl, rfl, rfl, dp, EC, .own _, hk 0 (by decide), z3, fun p2 np2 => ?_⟩
  have sp := snew (o := HO.tup [.str "system", .bl (b 0)]) np2
  have P2 := (P1.mono sp).snoc (upd_same (H := Hp0) (a := p2) (o := HO.tup [.str "system", .bl (b 0)]))
  have d2 := sp _ _ dp
  have s2 := same_tr sq sp
  generalize upd Hp0 p2 (.tup [.str "system", .bl (b 0)]) = Hq0 at np2 sp P2 d2 s2 ⊢
  clear P1 dp sq sp np2
  refine ⟨z3, fun l0 nl => ?_⟩
  have sp := snew (o := HO.lst [.ref p, .ref p2]) nl
  have P3 := P2.mono sp
  have d3 := sp _ _ d2
  have s3 := same_tr s2 sp
  have k3 : (upd Hq0 l0 (.lst [.ref p, .ref p2])) l0 = some (.lst [.ref p, .ref p2]) := upd_same
  generalize upd Hq0 l0 (.lst [.ref p, .ref p2]) = Hr0 at nl sp P3 d3 s3 k3 ⊢
  clear P2 d2 s2 sp nl
  obtain ⟨L0, eL0⟩ : ∃ L, L = [V.ref p, V.ref p2] := ⟨_, rfl⟩
  rw [← eL0] at k3
  have P0 : PrsE Hr0 L0 ((([] : List (Str × Bool)) ++ [(("number" : Str), b 7)]) ++ [(("system" : Str), b 0)]) := by rw [eL0]; exact P3
  have n0 : L0.length = 2 := by rw [eL0]; rfl
  have d0 := d3
  have s0 := s3
  have kl := k3
  clear P3 d3 s3 k3 eL0 p p2
  refine ⟨_, rfl, _, rfl, c i, dd, _, _, _, b 1, rfl, rfl, rfl, d0, EC, .own _, hk 1 (by decide), z3, fun p np => ?_⟩
  have sp := snew (o := HO.tup [.str "name", .bl (b 1)]) np
  have P1 := (P0.mono sp).snoc (upd_same (H := Hr0) (a := p) (o := HO.tup [.str "name", .bl (b 1)]))
  have dp := sp _ _ d0
  have sq := same_tr s0 sp
  have kp := sp _ _ kl
  generalize upd Hr0 p (.tup [.str "name", .bl (b 1)]) = Hp1 at np sp P1 dp sq kp ⊢
  clear P0 s0 d0 sp np kl
  refine ⟨_, rfl, c i, dd, _, _, _, b 2, rfl, rfl, rfl, dp, EC, .own _, hk 2 (by decide), z3, fun p2 np2 => ?_⟩
  have sp := snew (o := HO.tup [.str "axes", .bl (b 2)]) np2
  have P2 := (P1.mono sp).snoc (upd_same (H := Hp1) (a := p2) (o := HO.tup [.str "axes", .bl (b 2)]))
  have d2 := sp _ _ dp
  have s2 := same_tr sq sp
  have kq := sp _ _ kp
  generalize upd Hp1 p2 (.tup [.str "axes", .bl (b 2)]) = Hq1 at np2 sp P2 d2 s2 kq ⊢
  clear P1 dp sq sp np2 kp
  refine ⟨z3, fun l1 nl => ?_⟩
  have sp := snew (o := HO.lst [.ref p, .ref p2]) nl
  have P3 := P2.mono sp
  have d3 := sp _ _ d2
  have s3 := same_tr s2 sp
  have k3 : (upd Hq1 l1 (.lst [.ref p, .ref p2])) l1 = some (.lst [.ref p, .ref p2]) := upd_same
  have kr := sp _ _ kq
  generalize upd Hq1 l1 (.lst [.ref p, .ref p2]) = Hr1 at nl sp P3 d3 s3 k3 kr ⊢
  clear P2 d2 s2 sp nl kq
  refine ⟨l0, l1, _, _, rfl, rfl, kr, k3, (by rw [List.length_cons, List.length_cons, List.length_nil, n0]; show _ ≤ sizeLine; decide), fun m1 nm => ?_⟩
  have sp := snew (o := HO.lst (L0 ++ [.ref p, .ref p2])) nm
  have P4 := P3.mono sp
  have d0 := sp _ _ d3
  have s0 := same_tr s3 sp
  have kl : (upd Hr1 m1 (.lst (L0 ++ [.ref p, .ref p2]))) m1 = some (.lst (L0 ++ [.ref p, .ref p2])) := upd_same
  generalize upd Hr1 m1 (.lst (L0 ++ [.ref p, .ref p2])) = Hm1 at nm sp P4 d0 s0 kl ⊢
  obtain ⟨L1, eL1⟩ : ∃ L, L = L0 ++ [V.ref p, V.ref p2] := ⟨_, rfl⟩
  rw [← eL1] at kl
  have P0 : PrsE Hm1 L1 ((((([] : List (Str × Bool)) ++ [(("number" : Str), b 7)]) ++ [(("system" : Str), b 0)]) ++ [(("name" : Str), b 1)]) ++ [(("axes" : Str), b 2)]) := by rw [eL1]; rw [List.append_assoc] at P4; exact P4
  have n1 : L1.length = 4 := by rw [eL1, List.length_append, n0]; rfl
  clear P3 P4 d3 s3 k3 kr nm sp eL1 p p2
  refine ⟨_, rfl, _, rfl, c i, dd, _, _, _, b 3, rfl, rfl, rfl, d0, EC, .own _, hk 3 (by decide), z3, fun p np => ?_⟩
  have sp := snew (o := HO.tup [.str "table", .bl (b 3)]) np
  have P1 := (P0.mono sp).snoc (upd_same (H := Hm1) (a := p) (o := HO.tup [.str "table", .bl (b 3)]))
  have dp := sp _ _ d0
  have sq := same_tr s0 sp
  have kp := sp _ _ kl
  generalize upd Hm1 p (.tup [.str "table", .bl (b 3)]) = Hp2 at np sp P1 dp sq kp ⊢
  clear P0 s0 d0 sp np kl
  refine ⟨_, rfl, c i, dd, _, _, _, b 4, rfl, rfl, rfl, dp, EC, .own _, hk 4 (by decide), z3, fun p2 np2 => ?_⟩
  have sp := snew (o := HO.tup [.str "cell", .bl (b 4)]) np2
  have P2 := (P1.mono sp).snoc (upd_same (H := Hp2) (a := p2) (o := HO.tup [.str "cell", .bl (b 4)]))
  have d2 := sp _ _ dp
  have s2 := same_tr sq sp
  have kq := sp _ _ kp
  generalize upd Hp2 p2 (.tup [.str "cell", .bl (b 4)]) = Hq2 at np2 sp P2 d2 s2 kq ⊢
  clear P1 dp sq sp np2 kp
  refine ⟨z3, fun l2 nl => ?_⟩
  have sp := snew (o := HO.lst [.ref p, .ref p2]) nl
  have P3 := P2.mono sp
  have d3 := sp _ _ d2
  have s3 := same_tr s2 sp
  have k3 : (upd Hq2 l2 (.lst [.ref p, .ref p2])) l2 = some (.lst [.ref p, .ref p2]) := upd_same
  have kr := sp _ _ kq
  generalize upd Hq2 l2 (.lst [.ref p, .ref p2]) = Hr2 at nl sp P3 d3 s3 k3 kr ⊢
  clear P2 d2 s2 sp nl kq
  refine ⟨m1, l2, _, _, rfl, rfl, kr, k3, (by rw [List.length_cons, List.length_cons, List.length_nil, n1]; show _ ≤ sizeLine; decide), fun m2 nm => ?_⟩
  have sp := snew (o := HO.lst (L1 ++ [.ref p, .ref p2])) nm
  have P4 := P3.mono sp
  have d0 := sp _ _ d3
  have s0 := same_tr s3 sp
  have kl : (upd Hr2 m2 (.lst (L1 ++ [.ref p, .ref p2]))) m2 = some (.lst (L1 ++ [.ref p, .ref p2])) := upd_same
  generalize upd Hr2 m2 (.lst (L1 ++ [.ref p, .ref p2])) = Hm2 at nm sp P4 d0 s0 kl ⊢
  obtain ⟨L2, eL2⟩ : ∃ L, L = L1 ++ [V.ref p, V.ref p2] := ⟨_, rfl⟩
  rw [← eL2] at kl
  have P0 : PrsE Hm2 L2 ((((((([] : List (Str × Bool)) ++ [(("number" : Str), b 7)]) ++ [(("system" : Str), b 0)]) ++ [(("name" : Str), b 1)]) ++ [(("axes" : Str), b 2)]) ++ [(("table" : Str), b 3)]) ++ [(("cell" : Str), b 4)]) := by rw [eL2]; rw [List.append_assoc] at P4; exact P4
  have n2 : L2.length = 6 := by rw [eL2, List.length_append, n1]; rfl
  clear P3 P4 d3 s3 k3 kr nm sp eL2 p p2
  refine ⟨_, rfl, _, rfl, c i, dd, _, _, _, b 5, rfl, rfl, rfl, d0, EC, .own _, hk 5 (by decide), z3, fun p np => ?_⟩
  have sp := snew (o := HO.tup [.str "read", .bl (b 5)]) np
  have P1 := (P0.mono sp).snoc (upd_same (H := Hm2) (a := p) (o := HO.tup [.str "read", .bl (b 5)]))
  have dp := sp _ _ d0
  have sq := same_tr s0 sp
  have kp := sp _ _ kl
  generalize upd Hm2 p (.tup [.str "read", .bl (b 5)]) = Hp3 at np sp P1 dp sq kp ⊢
  clear P0 s0 d0 sp np kl
  refine ⟨_, rfl, c i, dd, _, _, _, b 6, rfl, rfl, rfl, dp, EC, .own _, hk 6 (by decide), z3, fun p2 np2 => ?_⟩
  have sp := snew (o := HO.tup [.str "shifts", .bl (b 6)]) np2
  have P2 := (P1.mono sp).snoc (upd_same (H := Hp3) (a := p2) (o := HO.tup [.str "shifts", .bl (b 6)]))
  have d2 := sp _ _ dp
  have s2 := same_tr sq sp
  have kq := sp _ _ kp
  generalize upd Hp3 p2 (.tup [.str "shifts", .bl (b 6)]) = Hq3 at np2 sp P2 d2 s2 kq ⊢
  clear P1 dp sq sp np2 kp
  refine ⟨z3, fun l3 nl => ?_⟩
  have sp := snew (o := HO.lst [.ref p, .ref p2]) nl
  have P3 := P2.mono sp
  have d3 := sp _ _ d2
  have s3 := same_tr s2 sp
  have k3 : (upd Hq3 l3 (.lst [.ref p, .ref p2])) l3 = some (.lst [.ref p, .ref p2]) := upd_same
  have kr := sp _ _ kq
  generalize upd Hq3 l3 (.lst [.ref p, .ref p2]) = Hr3 at nl sp P3 d3 s3 k3 kr ⊢
  clear P2 d2 s2 sp nl kq
  refine ⟨m2, l3, _, _, rfl, rfl, kr, k3, (by rw [List.length_cons, List.length_cons, List.length_nil, n2]; show _ ≤ sizeLine; decide), fun m3 nm => ?_⟩
  have sp := snew (o := HO.lst (L2 ++ [.ref p, .ref p2])) nm
  have P4 := P3.mono sp
  have d0 := sp _ _ d3
  have s0 := same_tr s3 sp
  have kl : (upd Hr3 m3 (.lst (L2 ++ [.ref p, .ref p2]))) m3 = some (.lst (L2 ++ [.ref p, .ref p2])) := upd_same
  generalize upd Hr3 m3 (.lst (L2 ++ [.ref p, .ref p2])) = Hm3 at nm sp P4 d0 s0 kl ⊢
  obtain ⟨L3, eL3⟩ : ∃ L, L = L2 ++ [V.ref p, V.ref p2] := ⟨_, rfl⟩
  rw [← eL3] at kl
  have P0 : PrsE Hm3 L3 ((((((((([] : List (Str × Bool)) ++ [(("number" : Str), b 7)]) ++ [(("system" : Str), b 0)]) ++ [(("name" : Str), b 1)]) ++ [(("axes" : Str), b 2)]) ++ [(("table" : Str), b 3)]) ++ [(("cell" : Str), b 4)]) ++ [(("read" : Str), b 5)]) ++ [(("shifts" : Str), b 6)]) := by rw [eL3]; rw [List.append_assoc] at P4; exact P4
  have n3 : L3.length = 8 := by rw [eL3, List.length_append, n2]; rfl
  clear P3 P4 d3 s3 k3 kr nm sp eL3 p p2
  refine ⟨_, rfl, _, rfl, c i, dd, _, _, _, b 8, rfl, rfl, rfl, d0, EC, .own _, hk 8 (by decide), z3, fun p np => ?_⟩
  have sp := snew (o := HO.tup [.str "ready", .bl (b 8)]) np
  have P1 := (P0.mono sp).snoc (upd_same (H := Hm3) (a := p) (o := HO.tup [.str "ready", .bl (b 8)]))
  have dp := sp _ _ d0
  have sq := same_tr s0 sp
  have kp := sp _ _ kl
  generalize upd Hm3 p (.tup [.str "ready", .bl (b 8)]) = Hp4 at np sp P1 dp sq kp ⊢
  clear P0 s0 d0 sp np kl
  refine ⟨_, rfl, c i, dd, _, _, _, b 9, rfl, rfl, rfl, dp, EC, .own _, hk 9 (by decide), z3, fun p2 np2 => ?_⟩
  have sp := snew (o := HO.tup [.str "far", .bl (b 9)]) np2
  have P2 := (P1.mono sp).snoc (upd_same (H := Hp4) (a := p2) (o := HO.tup [.str "far", .bl (b 9)]))
  have d2 := sp _ _ dp
  have s2 := same_tr sq sp
  have kq := sp _ _ kp
  generalize upd Hp4 p2 (.tup [.str "far", .bl (b 9)]) = Hq4 at np2 sp P2 d2 s2 kq ⊢
  clear P1 dp sq sp np2 kp
  refine ⟨z3, fun l4 nl => ?_⟩
  have sp := snew (o := HO.lst [.ref p, .ref p2]) nl
  have P3 := P2.mono sp
  have d3 := sp _ _ d2
  have s3 := same_tr s2 sp
  have k3 : (upd Hq4 l4 (.lst [.ref p, .ref p2])) l4 = some (.lst [.ref p, .ref p2]) := upd_same
  have kr := sp _ _ kq
  generalize upd Hq4 l4 (.lst [.ref p, .ref p2]) = Hr4 at nl sp P3 d3 s3 k3 kr ⊢
  clear P2 d2 s2 sp nl kq
  refine ⟨m3, l4, _, _, rfl, rfl, kr, k3, (by rw [List.length_cons, List.length_cons, List.length_nil, n3]; show _ ≤ sizeLine; decide), fun m4 nm => ?_⟩
  have sp := snew (o := HO.lst (L3 ++ [.ref p, .ref p2])) nm
  have P4 := P3.mono sp
  have d0 := sp _ _ d3
  have s0 := same_tr s3 sp
  have kl : (upd Hr4 m4 (.lst (L3 ++ [.ref p, .ref p2]))) m4 = some (.lst (L3 ++ [.ref p, .ref p2])) := upd_same
  generalize upd Hr4 m4 (.lst (L3 ++ [.ref p, .ref p2])) = Hm4 at nm sp P4 d0 s0 kl ⊢
  obtain ⟨L4, eL4⟩ : ∃ L, L = L3 ++ [V.ref p, V.ref p2] := ⟨_, rfl⟩
  rw [← eL4] at kl
  have P0 : PrsE Hm4 L4 ((((((((((([] : List (Str × Bool)) ++ [(("number" : Str), b 7)]) ++ [(("system" : Str), b 0)]) ++ [(("name" : Str), b 1)]) ++ [(("axes" : Str), b 2)]) ++ [(("table" : Str), b 3)]) ++ [(("cell" : Str), b 4)]) ++ [(("read" : Str), b 5)]) ++ [(("shifts" : Str), b 6)]) ++ [(("ready" : Str), b 8)]) ++ [(("far" : Str), b 9)]) := by rw [eL4]; rw [List.append_assoc] at P4; exact P4
  have n4 : L4.length = 10 := by rw [eL4, List.length_append, n3]; rfl
  clear P3 P4 d3 s3 k3 kr nm sp eL4 p p2
  refine ⟨_, rfl, _, rfl, c i, dd, _, _, _, b 10, rfl, rfl, rfl, d0, EC, .own _, hk 10 (by decide), z3, fun p np => ?_⟩
  have sp := snew (o := HO.tup [.str "undo", .bl (b 10)]) np
  have P1 := (P0.mono sp).snoc (upd_same (H := Hm4) (a := p) (o := HO.tup [.str "undo", .bl (b 10)]))
  have dp := sp _ _ d0
  have sq := same_tr s0 sp
  have kp := sp _ _ kl
  generalize upd Hm4 p (.tup [.str "undo", .bl (b 10)]) = Hp5 at np sp P1 dp sq kp ⊢
  clear P0 s0 d0 sp np kl
  refine ⟨_, rfl, c i, dd, _, _, _, b 11, rfl, rfl, rfl, dp, EC, .own _, hk 11 (by decide), z3, fun p2 np2 => ?_⟩
  have sp := snew (o := HO.tup [.str "text", .bl (b 11)]) np2
  have P2 := (P1.mono sp).snoc (upd_same (H := Hp5) (a := p2) (o := HO.tup [.str "text", .bl (b 11)]))
  have d2 := sp _ _ dp
  have s2 := same_tr sq sp
  have kq := sp _ _ kp
  generalize upd Hp5 p2 (.tup [.str "text", .bl (b 11)]) = Hq5 at np2 sp P2 d2 s2 kq ⊢
  clear P1 dp sq sp np2 kp
  refine ⟨z3, fun l5 nl => ?_⟩
  have sp := snew (o := HO.lst [.ref p, .ref p2]) nl
  have P3 := P2.mono sp
  have d3 := sp _ _ d2
  have s3 := same_tr s2 sp
  have k3 : (upd Hq5 l5 (.lst [.ref p, .ref p2])) l5 = some (.lst [.ref p, .ref p2]) := upd_same
  have kr := sp _ _ kq
  generalize upd Hq5 l5 (.lst [.ref p, .ref p2]) = Hr5 at nl sp P3 d3 s3 k3 kr ⊢
  clear P2 d2 s2 sp nl kq
  refine ⟨m4, l5, _, _, rfl, rfl, kr, k3, (by rw [List.length_cons, List.length_cons, List.length_nil, n4]; show _ ≤ sizeLine; decide), fun m5 nm => ?_⟩
  have sp := snew (o := HO.lst (L4 ++ [.ref p, .ref p2])) nm
  have P4 := P3.mono sp
  have d0 := sp _ _ d3
  have s0 := same_tr s3 sp
  have kl : (upd Hr5 m5 (.lst (L4 ++ [.ref p, .ref p2]))) m5 = some (.lst (L4 ++ [.ref p, .ref p2])) := upd_same
  generalize upd Hr5 m5 (.lst (L4 ++ [.ref p, .ref p2])) = Hm5 at nm sp P4 d0 s0 kl ⊢
  obtain ⟨L5, eL5⟩ : ∃ L, L = L4 ++ [V.ref p, V.ref p2] := ⟨_, rfl⟩
  rw [← eL5] at kl
  have P0 : PrsE Hm5 L5 ((((((((((((([] : List (Str × Bool)) ++ [(("number" : Str), b 7)]) ++ [(("system" : Str), b 0)]) ++ [(("name" : Str), b 1)]) ++ [(("axes" : Str), b 2)]) ++ [(("table" : Str), b 3)]) ++ [(("cell" : Str), b 4)]) ++ [(("read" : Str), b 5)]) ++ [(("shifts" : Str), b 6)]) ++ [(("ready" : Str), b 8)]) ++ [(("far" : Str), b 9)]) ++ [(("undo" : Str), b 10)]) ++ [(("text" : Str), b 11)]) := by rw [eL5]; rw [List.append_assoc] at P4; exact P4
  have n5 : L5.length = 12 := by rw [eL5, List.length_append, n4]; rfl
  clear P3 P4 d3 s3 k3 kr nm sp eL5 p p2
  obtain ⟨ps, eps⟩ : ∃ ps, ps = askC.map fun p => (p.1, b p.2) := ⟨_, rfl⟩
  have Pp : PrsE Hm5 L5 ps := by rw [eps]; exact P0
  clear P0
  have same5 : L5.length = ps.length := Paired.length Pp
  refine ⟨_, rfl, m5, rfl, ⟨L5, Or.inl (Or.inl kl)⟩, fun D hD => lc_list (K := K) (a := m5) (xs := L5) (fun j H' => Same Hm5 H' ∧ H' D = some (.lst (((ps.take j).filter (·.2)).map fun p => V.str p.1))) ⟨snew hD, upd_same⟩ (fun j H' _ z => Or.inl (Or.inl (z.1 _ _ kl))) ?_ ?_⟩
  · rintro j x H1 hx ⟨sj, dj⟩
    obtain ⟨pr, q1, hp, rfl, e1⟩ := Pp.get hx
    refine ⟨q1, _, rfl, Or.inl (Or.inl (sj _ _ e1)), rfl, _, _, rfl, _, _, rfl, rfl, rfl, _, rfl, pr.2, rfl, ?_⟩
    have tk : (ps.take (j + 1)).filter (·.2) = (ps.take j).filter (·.2) ++ (if pr.2 = true then [pr] else []) := by
      rw [List.take_add_one, hp, List.filter_append]
      cases e : pr.2 <;> simp [e]
    have few : (((ps.take j).filter (·.2)).map fun p => V.str p.1).length < sizeLine := by
      have z1 := List.length_filter_le (·.2) (ps.take j)
      have z2 := List.length_take_le j ps
      rw [List.length_map]
      have z3 := (List.getElem?_eq_some_iff.mp hx).1
      rw [n5] at z3
      have z4 : 12 < sizeLine := by decide
      omega
    have nD : Hm5 D = none := hD
    cases e : pr.2 with
    | true =>
      rw [e] at tk
      refine ite2 (fun _ => ⟨_, rfl, _, dj, few, ?_, ?_⟩) (fun z => absurd z (by decide))
      · intro x o hx2
        rw [upd_ne fun z => by rw [z, nD] at hx2; cases hx2]
        exact sj _ _ hx2
      · rw [upd_same, tk, List.map_append]
        rfl
    | false =>
      rw [e] at tk
      refine ite2 (fun z => absurd z (by decide)) (fun _ => ⟨sj, ?_⟩)
      rw [tk, if_neg Bool.false_ne_true, List.append_nil]
      exact dj
  · rintro H1 ⟨s1, d1⟩
    have ew : ((ps.take L5.length).filter (·.2)).map (fun p => V.str p.1) = [V.str (wordC i)] := by
      rw [same5, List.take_length, eps, List.filter_map, List.map_map]
      have z := ask_one i (List.mem_range.mpr hi)
      have e2 : askC.filter ((fun x : Str × Bool => x.2) ∘ fun p : Str × Nat => (p.1, b p.2)) = askC.filter fun p => decide (p.2 = i) := by
        refine List.filter_congr fun p hp => ?_
        show b p.2 = decide (p.2 = i)
        rw [hb]
        have n12 : ∀ p ∈ askC, decide (p.2 = 12) = false := by decide +kernel
        show (decide (p.2 = i) || decide (p.2 = 12)) = _
        rw [n12 p hp, Bool.or_false]
      rw [e2, show ((fun p : Str × Bool => V.str p.1) ∘ fun p : Str × Nat => (p.1, b p.2)) = V.str ∘ (·.1) from rfl, ← List.map_map, z]
      rfl
    rw [ew] at d1
    have hd1 := s1 _ _ d0
    refine ⟨_, rfl, D, _, rfl, Or.inl (Or.inl (Or.inl d1)), rfl, _, rfl, iteT ?_⟩
    refine ⟨_, rfl, c i, dd, _, _, _, true, rfl, rfl, rfl, hd1, EC, .ty _, KE.val, _, rfl, iteT ?_⟩
    refine ⟨_, rfl, D, _, 0, _, rfl, rfl, Or.inl (Or.inl d1), rfl, ?_⟩
    refine ⟨_, rfl, c i, dd, _, y, rfl, rfl, rfl, hd1, EC, no, rfl, z3, fun l hl => ?_⟩
    exact q l _ (same_tr s0 (same_tr s1 (snew hl))) upd_same
end
end Fr

namespace Fr
open PySem PySem.Spec PyProof.Rows L2 HotX L2H
abbrev s_Lraised : Stmt := topS 35
theorem sc_Lraised : FnScope ["_law_dims", "_law_rows", "_law_base", "_law_e"] ["_law_dims", "_law_rows", "_law_base"] (defScope s_Lraised) := ⟨rfl, rfl, rfl, by decide +kernel, rfl, by decide +kernel, by decide +kernel⟩
-- slots: 0 _law_dims, 1 _law_rows, 2 _law_base, 3 _law_e
section
variable {P : Program} {w : World} {K : PySem.W.Frag} {mg : Str → Option Value} {base : Heap} {c : Nat → Addr}
def wordB (b : Bool) : Str := if b = true then "number" else "system"
def spRaised (K : PySem.W.Frag) (TT : List (Addr × Str)) : Sp := fun vs H Q _ => ∃ (d m : Int) (v : V) (ts : List Tb), vs = [.int d, v, .int m] ∧ Dp K H v (.list (ts.map Tb.d)) ∧ Sz ts ∧ LamX.Tabs TT H ∧
  (Fine d ts m → ∀ H', LamX.ExtN H H' → LamX.Tabs TT H' → Q (.str "fine") H') ∧
  (∀ b n, Fault d ts m b n → ∀ l H', LamX.ExtN H H' → LamX.Tabs TT H' → H' l = some (.tup [.str (wordB b), .int n]) → Q (.ref l) H')
def spMakeN (K : PySem.W.Frag) (C : Addr) (TT : List (Addr × Str)) (CN CS : Addr) : Sp := fun vs H Q E => spInit K C TT vs H Q E ∨ spInitX K CN CS vs H Q E
theorem ok_raised {f C : Addr} {fd : FuncData} {TT : List (Addr × Str)} (F : Fun K "_law_raised" "_law_raised" s_Lraised f fd) (T : Txt mg) (TC : TxtC K mg C) (TE : TxX mg c) (n_System : MakN P w K mg base 5 "System" C (spMakeN K C TT (c 7) (c 0))) (y_Lcaught : CalE P w K mg base 1 "_law_caught" (spCaught K c))
    (er : ∀ i, i = 0 ∨ i = 7 → ErrC K (c i) ∧ KitE K c i ∧ PySem.W.findIn K (.ref (c i)) "value" = some none ∧ PySem.W.exmOne K (.ref (c i)) (.ref (c 12)) = some true) : FnOk P w K mg base CX0 7 f fd ["_law_dims", "_law_rows", "_law_base"] (spRaised K TT) := by
  refine F.ok sc_Lraised (fun vs H Q E h => ?_) (fun cdv A outer sh H vs Q E hr h => ?_)
  · obtain ⟨d, m, v, ts, rfl, _⟩ := h
    rfl
  · obtain ⟨d, m, v, ts, rfl, hv, Z, hT, q0, q1⟩ := h
    refine ⟨_, (pss_cons (ps_try_retE (i := 3) rfl rfl sc_Lraised.nd rfl rfl ⟨by rfl, by decide, .inl TE.g_ReadError⟩ y_Lcaught hr (by decide) (by rfl) (fun W pn xe tk pas => (pss_one (ps_expr (pe_mkN n_System hr (by decide) (by rfl) tk (pa_cons (pv 0) (pa_cons (pv 1) (pa_cons (pv 2) pa_nil))))))))
  (pss_one (ps_ret pe_str))), ?_⟩
    refine ⟨_, rfl, _, rfl, _, rfl, fun x dx hx hdx ne => ?_⟩
    have sx : Same H (upd (upd H dx (.own x)) x (.ins C dx [])) := same_tr (snew hdx) (snew (by rw [upd_ne ne.symm]; exact hx))
    rcases fine_or d ts m with g | ⟨b, n, fa⟩
    · refine Or.inl ⟨x, dx, d, m, v, ts, rfl, upd_same, hT.ext sx, g.sys, dpm sx _ _ hv, fun H' xb hT' S => ⟨rfl, ?_⟩⟩
      refine q0 g H' (fun b o h t => xb b o (sx _ _ h) (fun z => by rw [z, hx] at h; cases h) t) hT'
    · refine Or.inr ⟨x, d, m, n, v, ts, b, rfl, dpm sx _ _ hv, Z, fa, fun e H' s1 he => ?_⟩
      have fin : ∀ (i : Nat), i = 0 ∨ i = 7 → wordC i = wordB b → wAs K (.ref (c 12)) 3 (tRetE (spCaught K c) 3) wNo { nx := fun σ H => Q (.str "fine") H, rt := Q } (.ref (c i)) (some e) (start ["_law_dims", "_law_rows", "_law_base", "_law_e"] [.int d, v, .int m]) H' := fun i hi hw => by
        obtain ⟨EC, KE, no, ex⟩ := er i hi
        refine ⟨true, ex, fun _ a ha => ⟨_, rfl, rfl, i, e, .int n, by omega, rfl, rfl, he, EC, KE, no, fun l H2 s2 hl => ?_⟩, fun z => by cases z⟩
        have sall : Same H H2 := same_tr sx (same_tr s1 s2)
        exact q1 b n fa l H2 (.of sall) (hT.ext sall) (by rw [hl, hw])
      cases b with
      | true => exact fin 7 (Or.inr rfl) (by decide +kernel)
      | false => exact fin 0 (Or.inl rfl) (by decide +kernel)
end
end Fr

namespace Fr
open PySem PySem.Spec PyProof.Rows L2
abbrev s_Lis_word : Stmt := topS 36
theorem sc_Lis_word : FnScope ["_law_word", "_law_letters", "_law_sign"] ["_law_word"] (defScope s_Lis_word) := ⟨rfl, rfl, rfl, by decide +kernel, rfl, by decide +kernel, by decide +kernel⟩
-- slots: 0 _law_word, 1 _law_letters, 2 _law_sign
abbrev s_Ldue : Stmt := topS 37
theorem sc_Ldue : FnScope ["_law_dims", "_law_rows", "_law_base", "_law_words", "_law_many", "_law_spot", "_law_word", "_law_number", "_law_some", "_law_odd", "_law_one"] ["_law_dims", "_law_rows", "_law_base"] (defScope s_Ldue) := ⟨rfl, rfl, rfl, by decide +kernel, rfl, by decide +kernel, by decide +kernel⟩
-- slots: 0 _law_dims, 1 _law_rows, 2 _law_base, 3 _law_words, 4 _law_many, 5 _law_spot, 6 _law_word, 7 _law_number, 8 _law_some, 9 _law_odd, 10 _law_one
theorem dps_snoc1 {K : PySem.W.Frag} {H : Hp} : ∀ {xs : List V} {ds : List PyData} {x : V} {d : PyData}, DpAll K H xs ds → Dp K H x d → DpAll K H (xs ++ [x]) (ds ++ [d])
  | [], _, _, _, h, k => by cases h; exact .cons k .nil
  | _ :: xs, _, _, _, h, k => by
    cases h with
    | cons h1 h2 => exact .cons h1 (dps_snoc1 h2 k)
def filtD (p : Nat → Bool) (n : Nat) (ds : List PyData) : List PyData := ((List.range n).filter p).map fun i => ds.getD i .none
/-- the items of a list that a test keeps -/
theorem lc_filt {K : PySem.W.Frag} {J : It} {n : Nat} {G : Hp → Prop} {Y : Nat → Hp → V → Hp → Prop} (w : Walk J n G Y) {g : TG} {tt : TT} {te : TE} {vs : List Nat} {σ : L2.St} {H1 : Hp} {D : Addr} {Qd : Hp → Prop} {xs : List V} {ds : List PyData} (p : Nat → Bool)
    (h : DpAll K H1 xs ds) (hl : xs.length = n) (hn : n ≤ 1000000) (hD : H1 D = none) (hG : ∀ H, Same H1 H → G H) (hY : ∀ i H x H', Y i H x H' → H' = H ∧ xs[i]? = some x)
    (hs : ∀ i x H, xs[i]? = some x → Same H1 H → ∀ (R : V → Hp → Prop) (N : Hp → Prop), (p i = true → ∀ H3, Same H H3 → R x H3) → (p i = false → ∀ H3, Same H H3 → N H3) → g x (wipe σ vs) H fun σ2 H2 => wipe σ2 vs = wipe σ vs ∧ tt σ2 H2 fun b H3 => if b = true then te σ2 H3 R else N H3)
    (hd : ∀ H bs, Same H1 H → H D = some (.lst bs) → DpAll K H1 bs (filtD p n ds) → Qd H) :
    ∃ W : Nat → Nat → Hp → Prop, (∃ m, W 0 m (upd H1 D (.lst []))) ∧ ∀ i m H, W i m H →
      (J.stop i H ∧ Qd H) ∨ (J.go i H ∧ ∃ Nx : Hp → Prop, (∀ H', Nx H' → ∃ m', m' < m ∧ W (i + 1) m' H') ∧ ∀ x H', J.yld i H x H' → g x (wipe σ vs) H' fun σ2 H2 => wipe σ2 vs = wipe σ vs ∧ tt σ2 H2 fun b H3 =>
        if b = true then te σ2 H3 fun y H4 => ∃ acc, H4 D = some (.lst acc) ∧ acc.length < sizeLine ∧ Nx (upd H4 D (.lst (acc ++ [y]))) else Nx H3) := by
  have key : ∀ i, filtD p (i + 1) ds = filtD p i ds ++ (if p i = true then [ds.getD i .none] else []) := fun i => by
    unfold filtD
    rw [List.range_succ, List.filter_append, List.map_append]
    congr 1
    by_cases z : p i = true
    · rw [if_pos z, List.filter_cons_of_pos z]
      rfl
    · rw [if_neg z, List.filter_cons_of_neg z]
      rfl
  refine lc_it w (fun i H => ∃ bs, Same H1 H ∧ H D = some (.lst bs) ∧ DpAll K H1 bs (filtD p i ds) ∧ bs.length ≤ i) ⟨[], snew hD, upd_same, .nil, Nat.le_refl _⟩ (fun i H _ ⟨_, s, _⟩ => hG H s) ?_ (fun H ⟨bs, s, e, d, _⟩ => hd H bs s e d)
  rintro i x H H' hi ⟨bs, s1, e1, d1, l1⟩ y
  obtain ⟨rfl, hx⟩ := hY i H x H' y
  obtain ⟨dd, hdd, dx⟩ := dps_get h hx
  have eg : ds.getD i .none = dd := by rw [List.getD_eq_getElem?_getD, hdd]; rfl
  refine hs i x H' hx s1 _ _ (fun hp H3 s3 => ⟨bs, s3 _ _ e1, ?_, bs ++ [x], ?_, upd_same, ?_, ?_⟩) (fun hp H3 s3 => ⟨bs, same_tr s1 s3, s3 _ _ e1, ?_, by omega⟩)
  · have : 1000000 < sizeLine := by decide
    omega
  · intro b o hb
    rw [upd_ne fun z => by rw [z, hD] at hb; cases hb]
    exact s3 _ _ (s1 _ _ hb)
  · rw [key, if_pos hp, eg]
    exact dps_snoc1 d1 dx
  · rw [List.length_append]
    exact Nat.succ_le_succ l1
  · rw [key, if_neg (by rw [hp]; exact Bool.false_ne_true), List.append_nil]
    exact d1
theorem filtD_nil {p : Nat → Bool} {n : Nat} {ds : List PyData} : (filtD p n ds).isEmpty = (List.range n).all fun i => !p i := by
  unfold filtD
  rw [List.isEmpty_map]
  cases e : (List.range n).all fun i => !p i with
  | true =>
    rw [List.all_eq_true] at e
    rw [List.isEmpty_iff, List.filter_eq_nil_iff]
    intro i hi z
    have := e i hi
    rw [z] at this
    cases this
  | false =>
    rw [List.all_eq_false] at e
    obtain ⟨i, hi, z⟩ := e
    cases f : (List.range n).filter p with
    | cons a r => rfl
    | nil =>
      rw [List.filter_eq_nil_iff] at f
      exact absurd (by simpa using z) (f i hi)
theorem filtD_mem {p : Nat → Bool} {n : Nat} {ds : List PyData} {d : PyData} (hn : n ≤ ds.length) (h : d ∈ filtD p n ds) : d ∈ ds := by
  unfold filtD at h
  obtain ⟨i, hi, rfl⟩ := List.mem_map.mp h
  have lt := List.mem_range.mp (List.mem_filter.mp hi).1
  rw [List.getD_eq_getElem?_getD, List.getElem?_eq_getElem (by omega)]
  exact List.getElem_mem _
def abc : Str := "abcdefghijklmnopqrstuvwxyz"
theorem abc_list : abc.cps.toList = (List.range 26).map (· + 97) := by decide +kernel
theorem abc_sign (c : Nat) : decide (c ∈ abc.cps.toList) = okSign c := by
  have e1 : okSign c = decide (97 ≤ c ∧ c ≤ 122) := by
    unfold okSign
    have a1 : decide ([c] < [97]) = decide (c < 97) := decide_eq_decide.mpr (by simp [List.cons_lt_cons_iff])
    have a2 : decide ([122] < [c]) = decide (122 < c) := decide_eq_decide.mpr (by simp [List.cons_lt_cons_iff])
    rw [a1, a2]
    by_cases h1 : c < 97
    · rw [decide_eq_true h1, decide_eq_false (fun z : 97 ≤ c ∧ c ≤ 122 => by omega)]
      rfl
    · by_cases h2 : 122 < c
      · rw [decide_eq_true h2, decide_eq_false (fun z : 97 ≤ c ∧ c ≤ 122 => by omega), Bool.not_true, Bool.and_false]
      · rw [decide_eq_false h1, decide_eq_false h2, decide_eq_true (by omega : 97 ≤ c ∧ c ≤ 122)]
        rfl
  rw [e1, abc_list]
  refine decide_eq_decide.mpr ⟨fun h => ?_, fun h => List.mem_map.mpr ⟨c - 97, List.mem_range.mpr (by omega), by omega⟩⟩
  obtain ⟨k, hk, rfl⟩ := List.mem_map.mp h
  have := List.mem_range.mp hk
  omega
section
variable {P : Program} {w : World} {K : PySem.W.Frag} {mg : Str → Option Value} {base : Heap} {c : Nat → Addr}
def spIsWord : Sp := fun vs H Q _ => ∃ x : Str, vs = [.str x] ∧ x.length ≤ 100000 ∧ PyData.strOk x = true ∧ ∀ H', Same H H' → Q (.bl (isName x)) H'
theorem ok_is_word {f : Addr} {fd : FuncData} (F : Fun K "_law_is_word" "_law_is_word" s_Lis_word f fd) (T : Txt mg) : FnOk P w K mg base CX0 1 f fd ["_law_word"] spIsWord := by
  refine F.ok sc_Lis_word (fun vs H Q E h => ?_) (fun cdv A outer s H vs Q E hr h => ?_)
  · obtain ⟨x, rfl, _⟩ := h
    rfl
  · obtain ⟨x, rfl, hx, hok, q⟩ := h
    refine ⟨_, (pss_cons (ps_set (i := 1) sc_Lis_word.nd rfl (by first | exact Or.inl rfl | exact Or.inr rfl) pe_str)
  (pss_one (ps_ret (pe_and (pe_chain op_le op_le pe_int (pe_callB call_len_str (by rfl) T.b_len PySem.boot_len (pa_cons (pv 0) pa_nil)) pe_int) (pe_one (pe_cmpR (op_eqD hr.units) (pe_lc (own := [("_law_sign", 2)]) (g := gName 2) (by rfl) sc_Lis_word.nd (pi_str (pv 0)) (blkOk_by (N := ["_law_word", "_law_letters", "_law_sign"]) (sc := defScope s_Lis_word) (by decide +kernel)) (fun _ _ _ _ _ => (pg_name (i := 2) sc_Lis_word.nd rfl (by first | exact Or.inl rfl | exact Or.inr rfl))) (fun _ _ _ _ _ => (pts_one (pt_cmpR op_notIn_sign (pv 2) (pv 1) rfl))) (fun _ _ _ _ _ => (pv 2))) (pe_lst pa_nil) (nomark _))))))), ?_⟩
    have hs : x.length ≤ sizeLine := Nat.le_trans hx (by rw [sizeLine_eq]; decide)
    refine ⟨.str x, rfl, x, rfl, hs, 1, x.length, rfl, rfl, decide (1 ≤ (x.length : Int)), rfl, ?_⟩
    unfold isName at q
    refine ite2 (fun h1 => ?_) (fun h1 => ?_)
    · refine ⟨x.length, 8, rfl, rfl, decide ((x.length : Int) ≤ 8), rfl, ?_⟩
      rw [h1] at q
      refine ite2 (fun h2 => ?_) (fun h2 => ?_)
      · rw [h2] at q
        obtain ⟨ss, hss⟩ : ∃ ss : List Str, ss = x.cps.toList.map fun c => ⟨#[c]⟩ := ⟨_, rfl⟩
        have lss : ss.length = x.cps.size := by rw [hss, List.length_map, Array.length_toList]
        refine ⟨.str x, rfl, x, rfl, fun D hD => lc_filt (K := K) (walk_str (z := x)) (fun i => !decide (x.cps.toList.getD i 0 ∈ abc.cps.toList)) (strs_dps ss) (by rw [List.length_map, lss]) (by have e : x.cps.size = x.length := rfl; omega) hD (fun _ _ => True.intro) (fun i H1 y H2 h => ?_) ?_ ?_⟩
        · obtain ⟨rfl, c, hc, rfl⟩ := h
          refine ⟨rfl, ?_⟩
          rw [List.getElem?_map, hss, List.getElem?_map, Array.getElem?_toList, hc]
          rfl
        · intro i y H1 hy s1 R N hR hN
          rw [List.getElem?_map, hss, List.getElem?_map] at hy
          obtain ⟨z1, hz1, rfl⟩ := Option.map_eq_some_iff.mp hy
          obtain ⟨c, hc, rfl⟩ := Option.map_eq_some_iff.mp hz1
          have ec : x.cps.toList.getD i 0 = c := by rw [List.getD_eq_getElem?_getD, hc]; rfl
          rw [ec] at hR hN
          refine ⟨rfl, _, rfl, _, rfl, c, abc, rfl, rfl, _, rfl, ite2 (fun h => ⟨_, rfl, hR h H1 same_refl⟩) (fun h => hN (by simpa using h) H1 same_refl)⟩
        · intro H1 bs s1 e1 d1
          refine ⟨(by show 0 ≤ sizeLine; decide), fun l hl => ⟨_, .list [], .lst (Or.inl (Or.inl (snew hl _ _ e1))) (dpsm (same_tr s1 (snew hl)) _ _ d1), .lst (Or.inl (Or.inl upd_same)) .nil, ?_, by decide, ?_⟩⟩
          · refine shaped_list fun d hd => ?_
            obtain ⟨z, hz, rfl⟩ := List.mem_map.mp (filtD_mem (by rw [List.length_map, lss]; exact Nat.le_refl _) hd)
            rw [hss] at hz
            obtain ⟨c, hc, rfl⟩ := List.mem_map.mp hz
            refine ⟨?_, by simp [PyData.depth]⟩
            have z := hok
            unfold PyData.strOk at z
            rw [Array.all_eq_true'] at z
            have z1 := z c (by rw [← Array.mem_toList_iff]; exact hc)
            simp only [PyData.canLay0, PyData.strOk]
            simpa using z1
          · rw [eqv_nil, filtD_nil]
            have ea : ((List.range x.cps.size).all fun i => !!decide (x.cps.toList.getD i 0 ∈ abc.cps.toList)) = x.cps.toList.all okSign := by
              have z := range_map_get (x.cps.toList.map okSign) (fun i => okSign (x.cps.toList.getD i 0)) (fun i b hb => by
                rw [List.getElem?_map] at hb
                obtain ⟨c, h1, h2⟩ := Option.map_eq_some_iff.mp hb
                rw [List.getD_eq_getElem?_getD, h1]
                exact h2)
              rw [List.length_map, Array.length_toList] at z
              have z2 := congrArg (fun l : List Bool => l.all id) z
              simp only [List.all_map] at z2
              refine Eq.trans ?_ z2
              refine List.all_congr rfl fun i => ?_
              rw [Bool.not_not, abc_sign]
              rfl
            rw [ea]
            exact q _ (same_tr s1 (snew hl))
      · have h2' : decide ((x.length : Int) ≤ 8) = false := by simpa using h2
        rw [h2'] at q
        exact q H same_refl
    · have h1' : decide (1 ≤ (x.length : Int)) = false := by simpa using h1
      rw [h1'] at q
      exact ⟨false, rfl, q H same_refl⟩
/-- bounds: of a read, a table, tables -/
structure BnR (r : Rd1) : Prop where
  ok : PyData.strOk r.t = true
  l : r.t.length ≤ 20
  v : r.v.length ≤ 10
  x : ∀ i ∈ r.v, -1000 ≤ i ∧ i ≤ 1000
  f : -10 ≤ r.f ∧ r.f ≤ 10
structure BnT (k : Nat) (t : Tb) : Prop where
  ok : PyData.strOk t.n = true
  l : t.n.length ≤ 20
  c : -1000 ≤ t.c ∧ t.c ≤ 1000
  n : t.rs.length ≤ k
  r : ∀ r ∈ t.rs, BnR r
structure Bn (j k : Nat) (ts : List Tb) : Prop where
  l : ts.length ≤ j
  t : ∀ t ∈ ts, BnT k t
theorem Bn.sz {j k : Nat} {ts : List Tb} (h : Bn j k ts) (hj : j ≤ 30) (hk : k ≤ 60) : Sz ts :=
  ⟨by have := h.l; omega, fun t ht => by have := (h.t t ht).l; omega, fun t ht => by have := (h.t t ht).n; omega, fun t ht r hr => by have := ((h.t t ht).r r hr).l; omega⟩
theorem shw_rB {r : Rd1} (h : BnR r) : Shw r.d 3 500 := by
  have lv := h.v
  have hv : ShwA (r.v.map .int) 1 410 := (ShwA.map fun x hx => Shw.one (by have := h.x x hx; omega)).mono (Nat.le_refl _) (by omega)
  have hf := h.f
  exact (Shw.tup (ShwA.c (Shw.str (k := 2) h.ok h.l) (ShwA.c (Shw.tup hv) (ShwA.c (Shw.one (k := 2) (i := r.f) (by omega)) ShwA.nil)))).mono (j := 3) (by decide) (by decide)
theorem shw_tB {k : Nat} {t : Tb} (h : BnT k t) (hk : k ≤ 60) : Shw t.d 5 30200 := by
  have ln := h.n
  have hr : ShwA (t.rs.map Rd1.d) 3 30060 := (ShwA.map fun r hr => shw_rB (h.r r hr)).mono (Nat.le_refl _) (by omega)
  have hc := h.c
  exact (Shw.tup (ShwA.c (Shw.str (k := 4) h.ok h.l) (ShwA.c (Shw.one (i := t.c) (by omega)) (ShwA.c (Shw.list hr) ShwA.nil)))).mono (by decide) (by decide)
theorem shw_B {j k : Nat} {ts : List Tb} (h : Bn j k ts) (hj : j ≤ 30) (hk : k ≤ 60) : Shw (.list (ts.map Tb.d)) 6 906030 := Shw.list ((ShwA.map fun t ht => shw_tB (h.t t ht) hk).mono (Nat.le_refl _) (by have := h.l; omega))
theorem good_rB {r : Rd1} (h : BnR r) : Good r.d := ⟨(shw_rB h).lay, Nat.le_trans (shw_rB h).dep (by decide)⟩
def spDue (K : PySem.W.Frag) : Sp := fun vs H Q _ => ∃ (d m : Int) (v : V) (ts : List Tb), vs = [.int d, v, .int m] ∧ Dp K H v (.list (ts.map Tb.d)) ∧ Bn 30 60 ts ∧
  (Fine d ts m → ∀ H', Same H H' → Q (.str "fine") H') ∧ (∀ b n, Fault d ts m b n → ∀ l H', Same H H' → H' l = some (.tup [.str (wordB b), .int n]) → Q (.ref l) H')
theorem ok_due {f : Addr} {fd : FuncData} (F : Fun K "_law_due" "_law_due" s_Ldue f fd) (T : Txt mg) (c_Lis_word : C8.Cal P w K mg base 1 "_law_is_word" spIsWord []) : FnOk P w K mg base CX0 2 f fd ["_law_dims", "_law_rows", "_law_base"] (spDue K) := by
  refine F.ok sc_Ldue (fun vs H Q E h => ?_) (fun cdv A outer s H vs Q E hr h => ?_)
  · obtain ⟨d, m, v, ts, rfl, _⟩ := h
    rfl
  · obtain ⟨d, m, v, ts, rfl, hv, BN, q0, q1⟩ := h
    refine ⟨_, (pss_cons (ps_if (pt_not (pt_chain op_le op_le pe_int (pv 0) pe_int))
    (pss_one (ps_ret (pe_tup (pa_cons pe_str (pa_cons (pv 0) pa_nil)))))
    pss_nil)
  (pss_cons (ps_if (pt_not (pt_chain op_le op_le pe_int (pe_callB call_len_seq (by rfl) T.b_len PySem.boot_len (pa_cons (pv 1) pa_nil)) pe_int))
    (pss_one (ps_ret (pe_tup (pa_cons pe_str (pa_cons (pe_un un_neg pe_int) pa_nil)))))
    pss_nil)
  (pss_cons (ps_asg (pe_tup (pa_cons (pe_lst pa_nil) (pa_cons pe_int pa_nil))) (pg_tup rfl (pgs_cons (pg_name (i := 3) sc_Ldue.nd rfl (by first | exact Or.inl rfl | exact Or.inr rfl)) (pgs_cons (pg_name (i := 4) sc_Ldue.nd rfl (by first | exact Or.inl rfl | exact Or.inr rfl)) pgs_nil))))
  (pss_cons (ps_for PassesOwn.never rfl (pi_enum (by rfl) T.b_enumerate (pa_cons (pv 1) pa_nil)) (pg_tup rfl (pgs_cons (pg_name (i := 5) sc_Ldue.nd rfl (by first | exact Or.inl rfl | exact Or.inr rfl)) (pgs_cons (pg_tup rfl (pgs_cons (pg_name (i := 6) sc_Ldue.nd rfl (by first | exact Or.inl rfl | exact Or.inr rfl)) (pgs_cons (pg_name (i := 7) sc_Ldue.nd rfl (by first | exact Or.inl rfl | exact Or.inr rfl)) (pgs_cons (pg_name (i := 8) sc_Ldue.nd rfl (by first | exact Or.inl rfl | exact Or.inr rfl)) pgs_nil)))) pgs_nil)))
    (pss_cons (ps_set (i := 4) sc_Ldue.nd rfl (by first | exact Or.inl rfl | exact Or.inr rfl) (pe_op op_add (pv 4) (pe_callB call_len_seq (by rfl) T.b_len PySem.boot_len (pa_cons (pv 8) pa_nil))))
    (pss_cons (ps_setLc (i := 9) (own := [("_law_one", 10)]) (g := gName 10) (by rfl) sc_Ldue.nd rfl rfl (sw_true rfl rfl rfl (by decide +kernel)) (pi_list (pv 8)) (blkOk_by (N := ["_law_dims", "_law_rows", "_law_base", "_law_words", "_law_many", "_law_spot", "_law_word", "_law_number", "_law_some", "_law_odd", "_law_one"]) (sc := defScope s_Ldue) (by decide +kernel)) (fun _ _ _ _ _ => (pg_name (i := 10) sc_Ldue.nd rfl (by first | exact Or.inl rfl | exact Or.inr rfl))) (fun _ _ _ _ _ => (pts_one (PW.pt (pw_or (pt_not (pt_val (C8.pe_c c_Lis_word hr (by decide) (by rfl) (pa_cons (pe_ix (r := rIxT K) ix_tup (pv 10) pe_int (fun _ _ => rfl)) pa_nil)))) (pw_or (pt_cmpR op_ne (pe_callB (r := Evl.rLenS K) call_len_seq (by rfl) T.b_len PySem.boot_len (pa_cons (pe_ix (r := rIxT K) ix_tup (pv 10) pe_int (fun _ _ => rfl)) pa_nil)) (pv 0) (nomark _)) (pw_or1 (pt_cmpR op_eq (pe_ix (r := rIxT K) ix_tup (pv 10) pe_int (fun _ _ => rfl)) pe_int (nomark _)))))))) (fun _ _ _ _ _ => (pv 10)))
    (pss_cons (ps_if (PW.pt (pw_or (pt_not (pt_val (C8.pe_c c_Lis_word hr (by decide) (by rfl) (pa_cons (pv 6) pa_nil)))) (pw_or (pt_cmpR op_in_seq (pv 6) (pv 3) (by rfl)) (pw_or (pt_cmpR (op_neD hr.units) (pv 9) (pe_lst pa_nil) (nomark _)) (pw_or1 (pt_cmpR op_gt (pv 4) pe_int (nomark _)))))))
      (pss_one (ps_ret (pe_tup (pa_cons pe_str (pa_cons (pv 5) pa_nil)))))
      pss_nil)
    (pss_one (ps_expr (pe_bm PySem.F.plainAttrs_list PySem.F.slot_list_append PySem.F.type_list_append mt_append (pv 3) (pa_cons (pv 6) pa_nil))))))))
  (pss_cons (ps_for PassesOwn.never rfl (pi_enum (by rfl) T.b_enumerate (pa_cons (pv 1) pa_nil)) (pg_tup rfl (pgs_cons (pg_name (i := 5) sc_Ldue.nd rfl (by first | exact Or.inl rfl | exact Or.inr rfl)) (pgs_cons (pg_tup rfl (pgs_cons (pg_name (i := 6) sc_Ldue.nd rfl (by first | exact Or.inl rfl | exact Or.inr rfl)) (pgs_cons (pg_name (i := 7) sc_Ldue.nd rfl (by first | exact Or.inl rfl | exact Or.inr rfl)) (pgs_cons (pg_name (i := 8) sc_Ldue.nd rfl (by first | exact Or.inl rfl | exact Or.inr rfl)) pgs_nil)))) pgs_nil)))
    (pss_one (ps_if (pt_cmpR (op_neD hr.units) (pe_lc (own := [("_law_one", 10)]) (g := gName 10) (by rfl) sc_Ldue.nd (pi_list (pv 8)) (blkOk_by (N := ["_law_dims", "_law_rows", "_law_base", "_law_words", "_law_many", "_law_spot", "_law_word", "_law_number", "_law_some", "_law_odd", "_law_one"]) (sc := defScope s_Ldue) (by decide +kernel)) (fun _ _ _ _ _ => (pg_name (i := 10) sc_Ldue.nd rfl (by first | exact Or.inl rfl | exact Or.inr rfl))) (fun _ _ _ _ _ => (pts_one (pt_cmpR (r := rIn K true) op_notIn_seq (pe_ix (r := rIxT K) ix_tup (pv 10) pe_int (fun _ _ => rfl)) (pv 3) (by rfl)))) (fun _ _ _ _ _ => (pv 10))) (pe_lst pa_nil) (nomark _))
      (pss_one (ps_ret (pe_tup (pa_cons pe_str (pa_cons (pv 5) pa_nil)))))
      pss_nil)))
  (pss_one (ps_ret (pe_ifExp (pt_cmpR op_lt (pv 2) pe_int (nomark _)) (pe_tup (pa_cons pe_str (pa_cons (pv 2) pa_nil))) pe_str)))))))), ?_⟩
    have z2 : 2 ≤ sizeLine := by decide
    obtain ⟨a, xs, rfl, ha, hd⟩ := dlst hv
    have hxl : xs.length = ts.length := by rw [dps_len hd, List.length_map]
    have Z := BN.sz (by decide) (by decide)
    have hl1 := Z.l
    have num : ∀ {n : Int}, Fault d ts m true n → ∀ l H', Same H H' → H' l = some (.tup [.str "number", .int n]) → Q (.ref l) H' := fun f => q1 true _ f
    have sys : ∀ {n : Int}, Fault d ts m false n → ∀ l H', Same H H' → H' l = some (.tup [.str "system", .int n]) → Q (.ref l) H' := fun f => q1 false _ f
    refine ⟨_, rfl, 1, d, rfl, rfl, decide (1 ≤ d), rfl, ?_⟩
    by_cases h1 : 1 ≤ d
    case neg =>
      rw [decide_eq_false h1]
      refine iteF ⟨false, rfl, iteT ?_⟩
      exact ⟨_, rfl, z2, fun l hl => num (.dims fun z => h1 z.1) l _ (snew hl) upd_same⟩
    rw [decide_eq_true h1]
    refine iteT ⟨d, 3, rfl, rfl, decide (d ≤ 3), rfl, ?_⟩
    by_cases h3 : d ≤ 3
    case neg =>
      rw [decide_eq_false h3]
      refine iteT ?_
      exact ⟨_, rfl, z2, fun l hl => num (.dims fun z => h3 z.2) l _ (snew hl) upd_same⟩
    rw [decide_eq_true h3]
    refine iteF ⟨_, rfl, a, xs, rfl, Or.inl ha, 1, _, rfl, rfl, decide (1 ≤ (xs.length : Int)), rfl, ?_⟩
    by_cases h4 : 1 ≤ ts.length
    case neg =>
      rw [decide_eq_false (by omega)]
      refine iteF ⟨false, rfl, iteT ?_⟩
      exact ⟨1, rfl, z2, fun l hl => sys (.many h1 h3 fun z => h4 z.1) l _ (snew hl) upd_same⟩
    rw [decide_eq_true (by omega)]
    refine iteT ⟨_, 6, rfl, rfl, decide ((xs.length : Int) ≤ 6), rfl, ?_⟩
    by_cases h5 : ts.length ≤ 6
    case neg =>
      rw [decide_eq_false (by omega)]
      refine iteT ?_
      exact ⟨1, rfl, z2, fun l hl => sys (.many h1 h3 fun z => h5 z.2) l _ (snew hl) upd_same⟩
    rw [decide_eq_true (by omega)]
    refine iteF ?_
    refine ⟨(by show 0 ≤ sizeLine; decide), fun wl hwl => ⟨z2, fun tp htp => ?_⟩⟩
    have nwt : wl ≠ tp := fun z => by rw [← z, upd_same] at htp; cases htp
    have sH : Same H (upd (upd H wl (.lst [])) tp (.tup [.ref wl, .int 0])) := same_tr (snew hwl) (snew htp)
    have kH : (upd (upd H wl (.lst [])) tp (.tup [.ref wl, .int 0])) wl = some (.lst []) := by rw [upd_ne nwt, upd_same]
    refine ⟨tp, _, rfl, Or.inl (Or.inl upd_same), rfl, _, _, rfl, _, _, rfl, rfl, ?_⟩
    generalize upd (upd H wl (.lst [])) tp (.tup [.ref wl, .int 0]) = H0 at sH kH ⊢
    have wne : ∀ b o, H b = some o → b ≠ wl := fun b o e z => by rw [z, hwl] at e; cases e
    refine ⟨_, rfl, a, xs, rfl, sql sH ha, for_it (walk_enum (K := K) (a := a) (xs := xs)) (fun i σ H2 => ∃ y5 y6 y7 y8 y9, σ = [some (.int d), some (.ref a), some (.int m), some (.ref wl), some (.int (cnt (ts.take i))), y5, y6, y7, y8, y9, none] ∧ Same H H2 ∧ H2 wl = some (.lst (((ts.map (·.n)).take i).map V.str)) ∧ ∀ (j : Nat) (u : Tb), j < i → ts[j]? = some u → rowBad d ts j u = false)
      ⟨none, none, none, none, none, rfl, sH, kH, fun j u z => absurd z (Nat.not_lt_zero _)⟩ (fun i σ H2 _ ⟨_, _, _, _, _, _, s2, _⟩ => sql s2 ha) ?_ ?_⟩
    · rintro i x σ H2 H3 hi ⟨y5, y6, y7, y8, y9, rfl, s2, k2, good⟩ ⟨Tp, z1, z2, rfl, hT, rfl, e1, e2⟩
      cases e1
      have s3 : Same H (upd H2 Tp (.tup [.int (i : Nat), z2])) := same_tr s2 (snew hT)
      have k3 := snew (o := .tup [.int (i : Nat), z2]) hT _ _ k2
      obtain ⟨t, b, l, ys, f1, rfl, g1, g2, g3⟩ := tb_at (dpsm s3 _ _ hd) e2
      have htm : t ∈ ts := List.mem_of_getElem? f1
      have hyl : ys.length = t.rs.length := by rw [dps_len g3, List.length_map]
      have hrl := Z.r t htm
      have bad : rowBad d ts i t = true → ∀ l H', Same H H' → H' l = some (.tup [.str "system", .int i]) → Q (.ref l) H' := fun b => sys (.bad i t h1 h3 h4 h5 f1 b good)
      have more : rowBad d ts i t = false → ∀ (j : Nat) (u : Tb), j < i + 1 → ts[j]? = some u → rowBad d ts j u = false := fun b j u lt e => by
        by_cases z : j = i
        · subst z
          rw [f1] at e
          cases e
          exact b
        · exact good j u (by omega) e
      refine ⟨Tp, _, rfl, Or.inl (Or.inl upd_same), rfl, _, _, rfl, _, _, rfl, b, _, rfl, g1, rfl, _, _, rfl, _, _, rfl, _, _, rfl, rfl, rfl, ?_⟩
      generalize upd H2 Tp (.tup [.int (i : Nat), .ref b]) = H3 at s3 k3 g1 g2 g3 ⊢
      refine ⟨_, rfl, _, rfl, l, ys, rfl, Or.inl g2, _, _, rfl, rfl, ?_⟩
      have hc := cnt_take f1
      refine ⟨_, rfl, l, rfl, ⟨ys, g2⟩, fun D hD => lc_filt (K := K) (walk_list (K := K) (a := l) (xs := ys)) (fun j => !isRead d (t.rs.getD j ⟨Str.empty, [], 0⟩)) g3 rfl (by omega) hD (fun H' sm' => sql sm' g2) (fun j H x H' y => y) ?_ ?_⟩
      · intro j x H5 hx s5 R N hR hN
        obtain ⟨r, ra, rb, e3, rfl, e4, g5, g6⟩ := rd_at (dpsm s5 _ _ g3) hx
        have er : t.rs.getD j ⟨Str.empty, [], 0⟩ = r := by rw [List.getD_eq_getElem?_getD, e3]; rfl
        have hrm : r ∈ t.rs := List.mem_of_getElem? e3
        rw [er] at hR hN
        refine ⟨rfl, ?_⟩
        refine ⟨_, rfl, ra, _, 0, _, rfl, rfl, g5, rfl, r.t, rfl, Z.k t htm r hrm, ((BN.t t htm).r r hrm).ok, fun H6 s6 => ⟨_, rfl, ?_⟩⟩
        unfold isRead at hR hN
        cases hn : isName r.t with
        | false =>
          rw [hn] at hR
          exact iteT (iteT ⟨_, rfl, hR rfl H6 s6⟩)
        | true =>
          rw [hn] at hR hN
          refine iteF ⟨_, rfl, ra, _, 1, _, rfl, rfl, sqt s6 g5, rfl, rb, _, rfl, Or.inr (sqt s6 g6), _, rfl, rfl, _, rfl, ?_⟩
          have el : decide (V.int ((r.v.map V.int).length : Int) = V.int d) = decide ((r.v.length : Int) = d) := by
            rw [List.length_map]
            exact decide_eq_decide.mpr ⟨fun h => V.int.inj h, fun h => congrArg V.int h⟩
          rw [el]
          cases h2 : decide ((r.v.length : Int) = d) with
          | false =>
            rw [h2] at hR
            exact iteT (iteT ⟨_, rfl, hR rfl H6 s6⟩)
          | true =>
            rw [h2] at hR hN
            refine iteF ⟨_, rfl, ra, _, 2, _, rfl, rfl, sqt s6 g5, rfl, rfl, _, rfl, ?_⟩
            have ef : decide (V.int r.f = V.int 0) = decide (r.f = 0) := decide_eq_decide.mpr ⟨fun h => V.int.inj h, fun h => congrArg V.int h⟩
            rw [ef]
            cases h6 : decide (r.f = 0) with
            | true =>
              rw [h6] at hR
              exact iteT ⟨_, rfl, hR rfl H6 s6⟩
            | false =>
              rw [h6] at hN
              exact iteF (hN rfl H6 s6)
      · intro H5 os s5 d5 od
        have eo : (filtD (fun j => !isRead d (t.rs.getD j ⟨Str.empty, [], 0⟩)) ys.length (t.rs.map Rd1.d)).isEmpty = t.rs.all (isRead d) := by
          rw [filtD_nil, hyl]
          have z := congrArg (fun l : List Bool => l.all id) (all_range (p := isRead d) t.rs)
          simp only [List.all_map] at z
          refine Eq.trans ?_ z
          refine List.all_congr rfl fun j => ?_
          rw [Bool.not_not]
          rfl
        have so : SeqAt.shaped (.list (filtD (fun j => !isRead d (t.rs.getD j ⟨Str.empty, [], 0⟩)) ys.length (t.rs.map Rd1.d))) = true := by
          refine shaped_list fun dd hdd => ?_
          obtain ⟨r, hr, rfl⟩ := List.mem_map.mp (filtD_mem (by rw [List.length_map, hyl]; exact Nat.le_refl _) hdd)
          exact good_rB ((BN.t t htm).r r hr)
        have s05 : Same H H5 := same_tr s3 s5
        refine ⟨_, rfl, t.n, rfl, Z.n t htm, (BN.t t htm).ok, fun H6 s6 => ⟨_, rfl, ?_⟩⟩
        have erb : rowBad d ts i t = (!isName t.n || (decide (t.n ∈ (ts.map (·.n)).take i) || (decide (12 < cnt (ts.take (i + 1))) || !t.rs.all (isRead d)))) := rfl
        rw [erb] at bad more
        have z2' : 2 ≤ sizeLine := by decide
        cases hn : isName t.n with
        | false =>
          rw [hn] at bad
          exact iteT (iteT ⟨_, rfl, z2', fun lx hlx => bad rfl lx _ (same_tr s05 (same_tr s6 (snew hlx))) upd_same⟩)
        | true =>
          rw [hn] at bad more
          have k6 := s6 _ _ (s5 _ _ k3)
          refine iteF ⟨_, rfl, _, rfl, wl, _, rfl, Or.inl (Or.inl (Or.inl k6)), rfl, flat_strs _, decide (t.n ∈ (ts.map (·.n)).take i), by rw [inV_dec]; rfl, ?_⟩
          cases h7 : decide (t.n ∈ (ts.map (·.n)).take i) with
          | true =>
            rw [h7] at bad
            exact iteT (iteT ⟨_, rfl, z2', fun lx hlx => bad rfl lx _ (same_tr s05 (same_tr s6 (snew hlx))) upd_same⟩)
          | false =>
            rw [h7] at bad more
            refine iteF ⟨_, rfl, (by show 0 ≤ sizeLine; decide), fun n1 hn1 => ⟨_, .list [], .lst (Or.inl (Or.inl (snew hn1 _ _ (s6 _ _ d5)))) (dpsm (same_tr s5 (same_tr s6 (snew hn1))) _ _ od), .lst (Or.inl (Or.inl upd_same)) .nil, so, by decide, ?_⟩⟩
            rw [eqv_nil, eo]
            have s7 : Same H (upd H6 n1 (.lst [])) := same_tr s05 (same_tr s6 (snew hn1))
            have k7 := snew (o := .lst []) hn1 _ _ k6
            generalize upd H6 n1 (.lst []) = H7 at s7 k7 ⊢
            refine ⟨_, rfl, ?_⟩
            cases h8 : t.rs.all (isRead d) with
            | false =>
              rw [h8] at bad
              exact iteT (iteT ⟨_, rfl, z2', fun lx hlx => bad (by simp) lx _ (same_tr s7 (snew hlx)) upd_same⟩)
            | true =>
              rw [h8] at bad more
              refine iteF ⟨_, rfl, _, 12, rfl, rfl, decide (12 < (cnt (ts.take i) : Int) + (ys.length : Int)), rfl, ?_⟩
              have e12 : decide (12 < (cnt (ts.take i) : Int) + (ys.length : Int)) = decide (12 < cnt (ts.take (i + 1))) := decide_eq_decide.mpr ⟨fun z => by omega, fun z => by omega⟩
              rw [e12]
              cases h9 : decide (12 < cnt (ts.take (i + 1))) with
              | true =>
                rw [h9] at bad
                exact iteT ⟨_, rfl, z2', fun lx hlx => bad rfl lx _ (same_tr s7 (snew hlx)) upd_same⟩
              | false =>
                rw [h9] at more
                refine iteF ?_
                refine ⟨_, rfl, Or.inl ⟨rfl, _, Or.inl (Or.inl k7)⟩, _, rfl, wl, _, _, rfl, rfl, k7, ?_, ⟨some (.int (i : Int)), some (.str t.n), some (.int t.c), some (.ref l), some (.ref D), ?_, ?_, ?_, more rfl⟩⟩
                · rw [List.length_map, List.length_take]
                  have : 1000 < sizeLine := by decide
                  omega
                · rw [hc]
                  have ec : (cnt (ts.take i) : Int) + (ys.length : Int) = ((cnt (ts.take i) + t.rs.length : Nat) : Int) := by omega
                  rw [← ec]
                  rfl
                · intro b o e
                  rw [upd_ne (wne b o e)]
                  exact s7 _ _ e
                · rw [upd_same, List.take_add_one, List.getElem?_map, f1, List.map_append]
                  rfl
    · rintro σ H2 ⟨y5, y6, y7, y8, y9, rfl, s2, k2, good⟩
      have good2 : ∀ (j : Nat) (u : Tb), ts[j]? = some u → rowBad d ts j u = false := fun j u e => good j u (by rw [hxl]; exact (List.getElem?_eq_some_iff.mp e).1) e
      rw [hxl, show (ts.map (·.n)).take ts.length = ts.map (·.n) from List.take_of_length_le (by rw [List.length_map]; exact Nat.le_refl _)] at k2
      refine ⟨_, rfl, a, xs, rfl, sql s2 ha, for_it (walk_enum (K := K) (a := a) (xs := xs)) (fun i σ H3 => ∃ x4 y5 y6 y7 y8 y9, σ = [some (.int d), some (.ref a), some (.int m), some (.ref wl), x4, y5, y6, y7, y8, y9, none] ∧ Same H H3 ∧ H3 wl = some (.lst ((ts.map (·.n)).map V.str)) ∧ ∀ (j : Nat) (u : Tb), j < i → ts[j]? = some u → rowLoose ts u = false)
        ⟨_, y5, y6, y7, y8, y9, rfl, s2, k2, fun j u z => absurd z (Nat.not_lt_zero _)⟩ (fun i σ H3 _ ⟨_, _, _, _, _, _, _, s3, _⟩ => sql s3 ha) ?_ ?_⟩
      · rintro i x σ H3 H4 hi ⟨x4, y5, y6, y7, y8, y9, rfl, s3, k3, tied⟩ ⟨Tp, z1, z2, rfl, hT, rfl, e1, e2⟩
        cases e1
        have s4 : Same H (upd H3 Tp (.tup [.int (i : Nat), z2])) := same_tr s3 (snew hT)
        have k4 := snew (o := .tup [.int (i : Nat), z2]) hT _ _ k3
        obtain ⟨t, b, l, ys, f1, rfl, g1, g2, g3⟩ := tb_at (dpsm s4 _ _ hd) e2
        have htm : t ∈ ts := List.mem_of_getElem? f1
        have hyl : ys.length = t.rs.length := by rw [dps_len g3, List.length_map]
        have hrl := Z.r t htm
        have bad : rowLoose ts t = true → ∀ l H', Same H H' → H' l = some (.tup [.str "system", .int i]) → Q (.ref l) H' := fun b => sys (.loose i t h1 h3 h4 h5 good2 f1 b tied)
        have more : rowLoose ts t = false → ∀ (j : Nat) (u : Tb), j < i + 1 → ts[j]? = some u → rowLoose ts u = false := fun b j u lt e => by
          by_cases z : j = i
          · subst z
            rw [f1] at e
            cases e
            exact b
          · exact tied j u (by omega) e
        refine ⟨Tp, _, rfl, Or.inl (Or.inl upd_same), rfl, _, _, rfl, _, _, rfl, b, _, rfl, g1, rfl, _, _, rfl, _, _, rfl, _, _, rfl, rfl, rfl, ?_⟩
        generalize upd H3 Tp (.tup [.int (i : Nat), .ref b]) = H4 at s4 k4 g1 g2 g3 ⊢
        refine ⟨_, rfl, l, rfl, ⟨ys, g2⟩, fun D hD => lc_filt (K := K) (walk_list (K := K) (a := l) (xs := ys)) (fun j => !decide ((t.rs.getD j ⟨Str.empty, [], 0⟩).t ∈ ts.map (·.n))) g3 rfl (by omega) hD (fun H' sm' => sql sm' g2) (fun j H x H' y => y) ?_ ?_⟩
        · intro j x H5 hx s5 R N hR hN
          obtain ⟨r, ra, rb, e3, rfl, e4, g5, g6⟩ := rd_at (dpsm s5 _ _ g3) hx
          have er : t.rs.getD j ⟨Str.empty, [], 0⟩ = r := by rw [List.getD_eq_getElem?_getD, e3]; rfl
          rw [er] at hR hN
          refine ⟨rfl, ?_⟩
          refine ⟨_, rfl, ra, _, 0, _, rfl, rfl, g5, rfl, _, rfl, wl, _, rfl, Or.inl (Or.inl (Or.inl (s5 _ _ k4))), rfl, flat_strs _, !decide (r.t ∈ ts.map (·.n)), by rw [inV_dec]; rfl, ite2 (fun h => ⟨_, rfl, hR h H5 same_refl⟩) (fun h => hN (by simpa using h) H5 same_refl)⟩
        · intro H5 os s5 d5 od
          have eo : (filtD (fun j => !decide ((t.rs.getD j ⟨Str.empty, [], 0⟩).t ∈ ts.map (·.n))) ys.length (t.rs.map Rd1.d)).isEmpty = t.rs.all fun r => decide (r.t ∈ ts.map (·.n)) := by
            rw [filtD_nil, hyl]
            have z := congrArg (fun l : List Bool => l.all id) (all_range (p := fun r => decide (r.t ∈ ts.map (·.n))) t.rs)
            simp only [List.all_map] at z
            refine Eq.trans ?_ z
            refine List.all_congr rfl fun j => ?_
            rw [Bool.not_not]
            rfl
          have so : SeqAt.shaped (.list (filtD (fun j => !decide ((t.rs.getD j ⟨Str.empty, [], 0⟩).t ∈ ts.map (·.n))) ys.length (t.rs.map Rd1.d))) = true := by
            refine shaped_list fun dd hdd => ?_
            obtain ⟨r, hr, rfl⟩ := List.mem_map.mp (filtD_mem (by rw [List.length_map, hyl]; exact Nat.le_refl _) hdd)
            exact good_rB ((BN.t t htm).r r hr)
          refine ⟨(by show 0 ≤ sizeLine; decide), fun n1 hn1 => ⟨_, .list [], .lst (Or.inl (Or.inl (snew hn1 _ _ d5))) (dpsm (same_tr s5 (snew hn1)) _ _ od), .lst (Or.inl (Or.inl upd_same)) .nil, so, by decide, ?_⟩⟩
          rw [eqv_nil, eo]
          have s7 : Same H (upd H5 n1 (.lst [])) := same_tr s4 (same_tr s5 (snew hn1))
          have k7 := snew (o := .lst []) hn1 _ _ (s5 _ _ k4)
          generalize upd H5 n1 (.lst []) = H7 at s7 k7 ⊢
          refine ⟨_, rfl, ?_⟩
          have z2' : 2 ≤ sizeLine := by decide
          unfold rowLoose at bad
          cases h8 : t.rs.all fun r => decide (r.t ∈ ts.map (·.n)) with
          | false =>
            rw [h8] at bad
            exact iteT ⟨_, rfl, z2', fun lx hlx => bad rfl lx _ (same_tr s7 (snew hlx)) upd_same⟩
          | true =>
            have g := more (by unfold rowLoose; rw [h8]; rfl)
            exact iteF ⟨x4, some (.int (i : Int)), some (.str t.n), some (.int t.c), some (.ref l), y9, rfl, s7, k7, g⟩
      · rintro σ H3 ⟨x4, y5, y6, y7, y8, y9, rfl, s3, k3, tied⟩
        have tied2 : ∀ t ∈ ts, rowLoose ts t = false := fun t ht => by
          obtain ⟨i, hi⟩ := List.mem_iff_getElem?.mp ht
          exact tied i t (by rw [hxl]; exact (List.getElem?_eq_some_iff.mp hi).1) hi
        refine ⟨_, rfl, m, 2, rfl, rfl, decide (m < 2), rfl, ?_⟩
        by_cases h6 : m < 2
        · rw [decide_eq_true h6]
          exact iteT ⟨_, rfl, z2, fun lx hlx => num (.mod h1 h3 h4 h5 good2 tied2 h6) lx _ (same_tr s3 (snew hlx)) upd_same⟩
        · rw [decide_eq_false h6]
          exact iteF (q0 ⟨h1, h3, h4, h5, good2, tied2, by omega⟩ H3 s3)
end
end Fr

namespace Fr
open PySem PySem.Spec PyProof.Rows L2
abbrev s_Lbent : Stmt := topS 38
theorem sc_Lbent : FnScope ["_law_rng_here", "_law_dims", "_law_rows", "_law_word", "_law_number", "_law_some", "_law_spot", "_law_way", "_law_odd", "_law_zero", "_law_sign", "_law_more"] ["_law_rng_here", "_law_dims", "_law_rows"] (defScope s_Lbent) := ⟨rfl, rfl, rfl, by decide +kernel, rfl, by decide +kernel, by decide +kernel⟩
-- slots: 0 _law_rng_here, 1 _law_dims, 2 _law_rows, 3 _law_word, 4 _law_number, 5 _law_some, 6 _law_spot, 7 _law_way, 8 _law_odd, 9 _law_zero, 10 _law_sign, 11 _law_more
section
variable {P : Program} {w : World} {K : PySem.W.Frag} {mg : Str → Option Value} {base : Heap} {c : Nat → Addr}
theorem RowsAt.snocX {B H : Hp} {r : Addr} {rows : List Row1} {y : Row1} {os : List V} (h : RowsAt K B H r rows) (a : SqT K B y.t [.str y.w, .int y.c, .ref y.l]) (b : B y.l = none) (c : r ≠ y.l) (d : H y.l = some (.lst os)) (e : DpAll K B os (y.rs.map Rd1.d)) (n : ∀ (i : Nat) (z : Row1), rows[i]? = some z → z.l ≠ y.l) : RowsAt K B H r (rows ++ [y]) :=
  ⟨fun i z hz => by
    rcases get_snoc hz with ⟨h1, _⟩ | ⟨_, rfl⟩
    · exact h.at_ i z h1
    · exact ⟨a, b, c, os, d, e⟩, fun i j y' z hy hz hl => by
    rcases get_snoc hy with ⟨h1, k1⟩ | ⟨k1, rfl⟩ <;> rcases get_snoc hz with ⟨h2, k2⟩ | ⟨k2, rfl⟩
    · exact h.inj i j _ _ h1 h2 hl
    · exact absurd hl (n _ _ h1)
    · exact absurd hl.symm (n _ _ h2)
    · omega⟩
/-- the draws' list and the rows, a new object in the base -/
structure SR (K : PySem.W.Frag) (r : Addr) (m : Nat) (B H : Hp) (rows : List Row1) : Prop where
  rs : RS r m B H
  ro : RowsAt K B H r rows
theorem SR.nk {r p : Addr} {m : Nat} {B H : Hp} {rows : List Row1} {o : HO} (h : SR K r m B H rows) (e : H p = none) : SR K r m (upd B p o) (upd H p o) rows :=
  ⟨(h.rs.new e).keep upd_same (free_of h.rs.s e) (h.rs.ne e), h.ro.step (snew (free_of h.rs.s e)) fun j y hy => by
    obtain ⟨_, a2, _, xs, a4, _⟩ := h.ro.at_ j y hy
    have n := ne_of_none a4 e
    exact ⟨by rw [upd_ne n]; exact a2, upd_ne n⟩⟩
theorem SR.sb {r p : Addr} {m : Nat} {B H : Hp} {rows : List Row1} {o : HO} (h : SR K r m B H rows) (e : H p = none) : Same B (upd B p o) := snew (free_of h.rs.s e)
theorem SR.dr {r : Addr} {m m' : Nat} {B H H' : Hp} {rows : List Row1} (h : SR K r m B H rows) (d : Dr r m' H H') : SR K r m' B H' rows := ⟨h.rs.dr d, h.ro.dr d⟩
/-- another list for a row -/
theorem RowsAt.putX {B H : Hp} {r : Addr} {rows : List Row1} {y : Row1} {j : Nat} {rs' : List Rd1} {os : List V} (h : RowsAt K B H r rows) (e : rows[j]? = some y) (hv : DpAll K B os (rs'.map Rd1.d)) :
    RowsAt K B (upd H y.l (.lst os)) r (rows.set j { y with rs := rs' }) :=
  ⟨fun i z hz => by
    rcases get_set hz with ⟨rfl, rfl⟩ | ⟨ne, hz⟩
    · obtain ⟨a1, a2, a3, _⟩ := h.at_ _ y e
      exact ⟨a1, a2, a3, os, upd_same, hv⟩
    · obtain ⟨a1, a2, a3, xs', a4, a5⟩ := h.at_ _ z hz
      refine ⟨a1, a2, a3, xs', ?_, a5⟩
      rw [upd_ne fun hl => ne (h.inj i j z y hz e hl)]
      exact a4, fun i i' z z' hz hz' hl => by
    rcases get_set hz with ⟨rfl, rfl⟩ | ⟨ne, hz1⟩ <;> rcases get_set hz' with ⟨rfl, rfl⟩ | ⟨ne', hz2⟩
    · rfl
    · exact h.inj _ _ y z' e hz2 hl
    · exact h.inj _ _ z y hz1 e hl
    · exact h.inj _ _ z z' hz1 hz2 hl⟩
theorem sc_cut {X H : Hp} {r : Addr} (e : Same X H) (n : X r = none) : Same X (cutr H r) := fun b o h => by
  rw [cutr_ne (ne_of_none h n)]
  exact e b o h
theorem RowsAt.dps {B H : Hp} {r : Addr} {m : Nat} {rows : List Row1} (h : RowsAt K B H r rows) (R : RS r m B H) : DpAll K (cutr H r) (rows.map fun y => V.ref y.t) ((rows.map Row1.tb).map Tb.d) := by
  have s6 := sc_cut R.s R.n
  rw [List.map_map]
  refine dps_of fun y hy => ?_
  obtain ⟨j, hj⟩ := List.mem_iff_getElem?.mp hy
  obtain ⟨a1, a2, a3, xs, a4, a5⟩ := h.at_ j y hj
  exact .tup (sqt s6 a1) (.cons (.str _) (.cons (.int _) (.cons (.lst (Or.inl (Or.inl (by rw [cutr_ne a3.symm]; exact a4))) (dpsm s6 _ _ a5)) .nil)))
theorem cut_tl (x : V) (xs : List V) : cutV (x :: xs) (some 1) none = xs := by
  have h1 : HT.sIx (x :: xs).length 0 (some 1) = 1 := by
    unfold HT.sIx
    rw [List.length_cons]
    simp
  have h2 : HT.sIx (x :: xs).length (x :: xs).length none = (x :: xs).length := rfl
  unfold cutV
  rw [h1, h2, List.drop_succ_cons, List.drop_zero, List.take_of_length_le (by rw [List.length_cons]; omega)]
theorem cut_whole1 {x : V} {xs : List V} : ¬ (HT.sIx (x :: xs).length 0 (some 1) = 0 ∧ HT.sIx (x :: xs).length (x :: xs).length none = (x :: xs).length) := by
  intro h
  have h1 : HT.sIx (x :: xs).length 0 (some 1) = 1 := by
    unfold HT.sIx
    rw [List.length_cons]
    simp
  rw [h1] at h
  exact absurd h.1 (by decide)
theorem dps_take1 : ∀ {H : Hp} {xs : List V} {ds : List PyData} (n : Nat), DpAll K H xs ds → DpAll K H (xs.take n) (ds.take n)
  | _, _, _, 0, _ => .nil
  | _, _, _, _ + 1, .nil => .nil
  | _, _, _, n + 1, .cons h1 h2 => .cons h1 (dps_take1 n h2)
theorem dps_drop1 : ∀ {H : Hp} {xs : List V} {ds : List PyData} (n : Nat), DpAll K H xs ds → DpAll K H (xs.drop n) (ds.drop n)
  | _, _, _, 0, h => h
  | _, _, _, _ + 1, .nil => .nil
  | _, _, _, n + 1, .cons h1 h2 => dps_drop1 n h2
theorem Bn.set {j k j' k' : Nat} {rows : List Row1} {y : Row1} {i : Nat} {rs' : List Rd1} (h : Bn j k (rows.map Row1.tb)) (hy : rows[i]? = some y) (hj : j ≤ j') (hk : k ≤ k') (l : rs'.length ≤ k') (b : ∀ r ∈ rs', BnR r) : Bn j' k' ((rows.set i { y with rs := rs' }).map Row1.tb) := by
  refine ⟨by have := h.l; rw [List.length_map] at this ⊢; rw [List.length_set]; omega, fun t ht => ?_⟩
  obtain ⟨z, hz, rfl⟩ := List.mem_map.mp ht
  rcases List.mem_or_eq_of_mem_set hz with h1 | rfl
  · have w := h.t _ (List.mem_map.mpr ⟨z, h1, rfl⟩)
    exact ⟨w.ok, w.l, w.c, Nat.le_trans w.n hk, w.r⟩
  · have w := h.t _ (List.mem_map.mpr ⟨y, List.mem_of_getElem? hy, rfl⟩)
    exact ⟨w.ok, w.l, w.c, l, b⟩
theorem lo1 : -10 ≤ (1 : Int) ∧ (1 : Int) ≤ 10 := by decide
theorem lo0 : -10 ≤ (0 : Int) ∧ (0 : Int) ≤ 10 := by decide
theorem miss : PyData.strOk ("missing" : Str) = true ∧ ("missing" : Str).length ≤ 20 := by decide +kernel
theorem same_cutr {H H' : Hp} {r : Addr} (e : Same H H') : Same (cutr H r) (cutr H' r) := fun b o h => by
  by_cases n : b = r
  · unfold cutr at h
    rw [if_pos n] at h
    cases h
  · rw [cutr_ne n] at h ⊢
    exact e _ _ h
theorem Bn.app {j j' k : Nat} {ts us : List Tb} (h : Bn j k ts) (g : ∀ t ∈ us, BnT k t) (l : j + us.length ≤ j') : Bn j' k (ts ++ us) :=
  ⟨by have := h.l; rw [List.length_append]; omega, fun t ht => (List.mem_append.mp ht).elim (h.t t) (g t)⟩
theorem Bn.mono {j j' k k' : Nat} {ts : List Tb} (h : Bn j k ts) (e : j ≤ j') (f : k ≤ k') : Bn j' k' ts := ⟨Nat.le_trans h.l e, fun t ht => by
  have w := h.t t ht
  exact ⟨w.ok, w.l, w.c, Nat.le_trans w.n f, w.r⟩⟩
theorem cut_from (xs : List V) (i : Nat) : cutV xs (some (i : Int)) none = xs.drop i := by
  unfold cutV
  rw [show HT.sIx xs.length 0 (some (i : Int)) = min i xs.length from HT.sIx_nat xs.length 0 i, show HT.sIx xs.length xs.length none = xs.length from rfl]
  by_cases h : i ≤ xs.length
  · rw [Nat.min_eq_left h, List.take_of_length_le (by rw [List.length_drop]; omega)]
  · rw [Nat.min_eq_right (by omega), List.drop_eq_nil_of_le (Nat.le_refl _), List.drop_eq_nil_of_le (by omega)]
    simp
def UVW : Str := "uvwxyz"
def newT (i : Nat) : Tb := ⟨("t" : Str) ++ ⟨#[UVW.cps.toList.getD i 0]⟩, 0, []⟩
theorem uvw_n : UVW.cps.size = 6 := by decide +kernel
theorem new_ok : ∀ i ∈ List.range 6, PyData.strOk (newT i).n = true ∧ (newT i).n.length ≤ 20 := by decide +kernel
theorem new_B {k i : Nat} (h : i < 6) : BnT k (newT i) := by
  obtain ⟨a, b⟩ := new_ok i (List.mem_range.mpr h)
  exact ⟨a, b, by show -1000 ≤ (0 : Int) ∧ (0 : Int) ≤ 1000; decide, Nat.zero_le _, fun r hr => by cases hr⟩
def ODD : List Str := ["", "A", "abcdefghi", "a1", "a b", "_", "abcdefgh", "e"]
theorem odd_ok : ∀ x ∈ ODD, PyData.strOk x = true ∧ x.length ≤ 20 := by decide +kernel
def spBent (K : PySem.W.Frag) : Sp := fun vs H Q _ => ∃ (r p : Addr) (d : Int) (m j k : Nat) (B : Hp) (ts : List Tb), vs = [.ref r, .int d, .ref p] ∧ RS r m B H ∧ LD K B p (ts.map Tb.d) ∧ 1 ≤ d ∧ d ≤ 3 ∧ 1 ≤ ts.length ∧ Bn j k ts ∧ j ≤ 20 ∧ k ≤ 40 ∧ m ≤ 2 ^ 58 ∧
  ∀ p' B' H' ts', Same B B' → RS r (m + 20) B' H' → LD K B' p' (ts'.map Tb.d) → Bn (j + 6) (k + 12) ts' → Q (.ref p') H'
theorem ok_bent {f : Addr} {fd : FuncData} (F : Fun K "_law_bent" "_law_bent" s_Lbent f fd) (T : Txt mg) (c_Ldraw : C8.Cal P w K mg base 1 "_law_draw" spDraw []) : FnOk P w K mg base CX0 2 f fd ["_law_rng_here", "_law_dims", "_law_rows"] (spBent K) := by
  refine F.ok sc_Lbent (fun vs H Q E h => ?_) (fun cdv A outer sh H vs Q E hr h => ?_)
  · obtain ⟨r, p, d, m, j, k, B, ts, rfl, _⟩ := h
    rfl
  · obtain ⟨r, p, d, m, j, k, B, ts, rfl, R, hp, hd1, hd3, hl1, BN, hj, hk, hm, q⟩ := h
    have hu := hu_of hr
    refine ⟨_, (pss_cons (ps_setLc (i := 2) (own := [("_law_word", 3), ("_law_number", 4), ("_law_some", 5)]) (g := gTup K 3 (gCons (gName 3) (gCons (gName 4) (gCons (gName 5) gNil)))) (tt := tYes) (by rfl) sc_Lbent.nd rfl rfl (sw_true rfl rfl rfl (by decide +kernel)) (pi_list (pv 2)) (blkOk_by (N := ["_law_rng_here", "_law_dims", "_law_rows", "_law_word", "_law_number", "_law_some", "_law_spot", "_law_way", "_law_odd", "_law_zero", "_law_sign", "_law_more"]) (sc := defScope s_Lbent) (by decide +kernel)) (fun _ _ _ _ _ => (pg_tup rfl (pgs_cons (pg_name (i := 3) sc_Lbent.nd rfl (by first | exact Or.inl rfl | exact Or.inr rfl)) (pgs_cons (pg_name (i := 4) sc_Lbent.nd rfl (by first | exact Or.inl rfl | exact Or.inr rfl)) (pgs_cons (pg_name (i := 5) sc_Lbent.nd rfl (by first | exact Or.inl rfl | exact Or.inr rfl)) pgs_nil))))) (fun _ _ _ _ _ => pts_nil) (fun _ _ _ _ _ => (pe_tup (pa_cons (pv 3) (pa_cons (pv 4) (pa_cons (pe_callTy (r := Evl.rListS K) call_list_of (by rfl) T.b_list (by decide +kernel) (pa_cons (pv 5) pa_nil)) pa_nil))))))
  (pss_cons (ps_par (i := 6) (j := 7) (by rfl) sc_Lbent.nd rfl rfl (by decide) rfl rfl (pa_cons (C8.pe_c c_Ldraw hr (by decide) (by rfl) (pa_cons (pv 0) (pa_cons (pe_callB call_len_seq (by rfl) T.b_len PySem.boot_len (pa_cons (pv 2) pa_nil)) pa_nil))) (pa_cons (C8.pe_c c_Ldraw hr (by decide) (by rfl) (pa_cons (pv 0) (pa_cons pe_int pa_nil))) pa_nil)) (by rfl))
  (pss_cons (ps_asg (pe_ix ix_list (pv 2) (pv 6) (fun _ _ => rfl)) (pg_tup rfl (pgs_cons (pg_name (i := 3) sc_Lbent.nd rfl (by first | exact Or.inl rfl | exact Or.inr rfl)) (pgs_cons (pg_name (i := 4) sc_Lbent.nd rfl (by first | exact Or.inl rfl | exact Or.inr rfl)) (pgs_cons (pg_name (i := 5) sc_Lbent.nd rfl (by first | exact Or.inl rfl | exact Or.inr rfl)) pgs_nil)))))
  (pss_cons (ps_set (i := 8) sc_Lbent.nd rfl (by first | exact Or.inl rfl | exact Or.inr rfl) (pe_ix ix_list (pe_lst (pa_cons pe_str (pa_cons pe_str (pa_cons pe_str (pa_cons pe_str (pa_cons pe_str (pa_cons pe_str (pa_cons pe_str (pa_cons pe_str pa_nil))))))))) (C8.pe_c c_Ldraw hr (by decide) (by rfl) (pa_cons (pv 0) (pa_cons pe_int pa_nil))) (fun _ _ => rfl)))
  (pss_cons (ps_set (i := 9) sc_Lbent.nd rfl (by first | exact Or.inl rfl | exact Or.inr rfl) (pe_csqE (pe_op op_repU (pe_tup (pa_cons pe_int pa_nil)) (pv 1))))
  (pss_cons (ps_if (pt_cmpR op_eq (pv 7) pe_int (nomark _))
    (pss_one (ps_ret (pe_op op_cat (pe_op op_cat (pe_slice sl_list (pv 2) po_none (po_some (pv 6))) (pe_lst (pa_cons (pe_tup (pa_cons (pv 8) (pa_cons (pv 4) (pa_cons (pv 5) pa_nil)))) pa_nil))) (pe_slice sl_list (pv 2) (po_some (pe_op op_add (pv 6) pe_int)) po_none))))
    pss_nil)
  (pss_cons (ps_if (pt_cmpR op_eq (pv 7) pe_int (nomark _))
    (pss_one (ps_ret (pe_op op_cat (pv 2) (pe_lst (pa_cons (pe_ix ix_list (pv 2) (C8.pe_c c_Ldraw hr (by decide) (by rfl) (pa_cons (pv 0) (pa_cons (pe_callB call_len_seq (by rfl) T.b_len PySem.boot_len (pa_cons (pv 2) pa_nil)) pa_nil))) (fun _ _ => rfl)) pa_nil)))))
    pss_nil)
  (pss_cons (ps_if (pt_cmpR op_eq (pv 7) pe_int (nomark _))
    (pss_one (ps_ret (pe_ix ix_list (pe_lst (pa_cons (pv 2) (pa_cons (pe_lst pa_nil) (pa_cons (pe_op op_cat (pv 2) (pe_lc (own := [("_law_sign", 10)]) (g := gName 10) (tt := tYes) (by rfl) sc_Lbent.nd (pi_str pe_str) (blkOk_by (N := ["_law_rng_here", "_law_dims", "_law_rows", "_law_word", "_law_number", "_law_some", "_law_spot", "_law_way", "_law_odd", "_law_zero", "_law_sign", "_law_more"]) (sc := defScope s_Lbent) (by decide +kernel)) (fun _ _ _ _ _ => (pg_name (i := 10) sc_Lbent.nd rfl (by first | exact Or.inl rfl | exact Or.inr rfl))) (fun _ _ _ _ _ => pts_nil) (fun _ _ _ _ _ => (pe_tup (pa_cons (pe_op op_add_str pe_str (pv 10)) (pa_cons pe_int (pa_cons (pe_lst pa_nil) pa_nil))))))) pa_nil)))) (C8.pe_c c_Ldraw hr (by decide) (by rfl) (pa_cons (pv 0) (pa_cons pe_int pa_nil))) (fun _ _ => rfl))))
    pss_nil)
  (pss_cons (ps_set (i := 11) sc_Lbent.nd rfl (by first | exact Or.inl rfl | exact Or.inr rfl) (pe_lst (pa_cons (pe_tup (pa_cons (pv 8) (pa_cons (pv 9) (pa_cons pe_int pa_nil)))) (pa_cons (pe_tup (pa_cons (pv 3) (pa_cons (pe_slice sl_tupA (pv 9) (po_some pe_int) po_none) (pa_cons pe_int pa_nil)))) (pa_cons (pe_tup (pa_cons (pv 3) (pa_cons (pe_op op_catA (pv 9) (pe_tup (pa_cons pe_int pa_nil))) (pa_cons pe_int pa_nil)))) (pa_cons (pe_tup (pa_cons (pv 3) (pa_cons (pv 9) (pa_cons pe_int pa_nil)))) (pa_cons (pe_tup (pa_cons pe_str (pa_cons (pv 9) (pa_cons pe_int pa_nil)))) pa_nil)))))))
  (pss_cons (ps_if (pt_cmpR op_lt (pv 7) pe_int (nomark _))
    (pss_one (ps_expr (pe_bm PySem.F.plainAttrs_list PySem.F.slot_list_insert PySem.F.type_list_insert mt_insert (pv 5) (pa_cons (C8.pe_c c_Ldraw hr (by decide) (by rfl) (pa_cons (pv 0) (pa_cons (pe_op op_add (pe_callB call_len_seq (by rfl) T.b_len PySem.boot_len (pa_cons (pv 5) pa_nil)) pe_int) pa_nil))) (pa_cons (pe_ix ix_list (pv 11) (pe_op op_sub (pv 7) pe_int) (fun _ _ => rfl)) pa_nil)))))
    (pss_one (ps_expr (pe_bm PySem.F.plainAttrs_list PySem.F.slot_list_extend PySem.F.type_list_extend mt_extend (pv 5) (pa_cons (pe_op op_rep (pe_lst (pa_cons (pe_tup (pa_cons (pv 3) (pa_cons (pv 9) (pa_cons pe_int pa_nil)))) pa_nil)) (pe_op op_sub pe_int (C8.pe_c c_Ldraw hr (by decide) (by rfl) (pa_cons (pv 0) (pa_cons pe_int pa_nil))))) pa_nil)))))
  (pss_one (ps_ret (pv 2))))))))))))), ?_⟩
    have z1 : 1 ≤ sizeLine := by decide
    have z2 : 2 ≤ sizeLine := by decide
    have z3 : 3 ≤ sizeLine := by decide
    obtain ⟨xs, hx, hxd⟩ := id hp
    have hxl : xs.length = ts.length := by rw [dps_len hxd, List.length_map]
    have tl := BN.l
    -- the rows, their lists copied
    refine ⟨_, rfl, p, rfl, ⟨_, Or.inl (Or.inl (R.s _ _ hx))⟩, fun D hD => ?_⟩
    have bD := free_of R.s hD
    have rD := R.ne hD
    refine lc_it (walk_list (K := K) (a := p) (xs := xs)) (fun i H' => ∃ (B2 : Hp) (rows : List Row1), Same B B2 ∧ RS r m B2 H' ∧ RowsAt K B2 H' r rows ∧ rows.map Row1.tb = ts.take i ∧ H' D = some (.lst (rows.map fun y => V.ref y.t)) ∧ B2 D = none ∧ ∀ y ∈ rows, y.l ≠ D) ⟨B, [], same_refl, R.new hD, ⟨fun i y e => (by cases e), fun i j y z e => (by cases e)⟩, rfl, upd_same, bD, fun y h => (by cases h)⟩ (fun i H' _ ⟨B2, rows, b1, b2, _⟩ => Or.inl (Or.inl (b2.s _ _ (b1 _ _ hx)))) ?_ ?_
    · rintro i y _ Hi hi ⟨B2, rows, b1, b2, b3, b4, b5, b6, b7⟩ ⟨rfl, hy⟩
      obtain ⟨tb, a, l, os, htb, rfl, hta, hlo, hdo⟩ := tb_at (dpsm b1 _ _ hxd) hy
      refine ⟨a, _, rfl, sqt b2.s hta, rfl, _, _, rfl, _, _, rfl, _, _, rfl, rfl, rfl, yes_if ?_⟩
      refine ⟨_, rfl, _, rfl, _, rfl, l, os, rfl, Or.inl (sql b2.s hlo), fun l2 hl2 => ⟨z3, fun u hu2 => ?_⟩⟩
      have hu2' : Hi u = none := by
        have e := hu2
        rw [upd_ne fun z => by rw [z, upd_same] at hu2; cases hu2] at e
        exact e
      have n12 : u ≠ l2 := fun z => by rw [z, upd_same] at hu2; cases hu2
      have bu := free_of b2.s hu2'
      have K3 := (b2.new (o := .lst os) hl2)
      have K4 := (K3.new (o := .tup [.str tb.n, .int tb.c, .ref l2]) hu2).keep upd_same bu (b2.ne hu2')
      have hold : ∀ (j : Nat) (z : Row1), rows[j]? = some z → z.l ≠ D ∧ z.l ≠ l2 ∧ z.l ≠ u := fun j z hz => by
        obtain ⟨_, _, _, zs, a4, _⟩ := b3.at_ j z hz
        exact ⟨b7 z (List.mem_of_getElem? hz), ne_of_none a4 hl2, ne_of_none a4 hu2'⟩
      have nD2 : D ≠ l2 := ne_of_none b5 hl2
      have nDu : D ≠ u := ne_of_none b5 hu2'
      refine ⟨rows.map fun y => V.ref y.t, by rw [upd_ne nDu, upd_ne nD2]; exact b5, ?_, upd B2 u (.tup [.str tb.n, .int tb.c, .ref l2]), rows ++ [⟨u, tb.n, tb.c, l2, tb.rs⟩], same_tr b1 (snew bu), K4.put (by rw [upd_ne nDu]; exact b6) rD, ?_, ?_, ?_, by rw [upd_ne nDu]; exact b6, ?_⟩
      · have e := congrArg List.length b4
        rw [List.length_map, List.length_take] at e
        rw [List.length_map]
        exact small1000 (by omega)
      · refine RowsAt.snocX (os := os) (b3.step (snew bu) fun j z hz => ?_) (Or.inl (Or.inl upd_same)) ?_ (b2.ne hl2) ?_ (dpsm (snew bu) _ _ hdo) fun j z hz => (hold j z hz).2.1
        · obtain ⟨n1, n2, n3⟩ := hold j z hz
          refine ⟨by rw [upd_ne n3]; exact (b3.at_ j z hz).2.1, by rw [upd_ne n1, upd_ne n3, upd_ne n2]⟩
        · show (upd B2 u _) l2 = none
          rw [upd_ne n12.symm]
          exact free_of b2.s hl2
        · show (upd (upd (upd Hi l2 (.lst os)) u _) D _) l2 = _
          rw [upd_ne nD2.symm, upd_ne n12.symm, upd_same]
      · rw [List.map_append, b4, List.take_add_one, htb]
        rfl
      · rw [upd_same, List.map_append]
        rfl
      · intro z hz
        rcases List.mem_append.mp hz with h | h
        · exact b7 z h
        · rw [List.mem_singleton.mp h]
          exact nD2.symm
    rintro H2 ⟨B2, rows, b1, b2, b3, b4, b5, b6, b7⟩
    rw [hxl, List.take_length] at b4
    have R3 := b2.keep b5 b6 rD
    have M3 := b3.step (B' := upd B2 D (.lst (rows.map fun y => V.ref y.t))) (H' := H2) (snew b6) fun j y hy => ⟨by rw [upd_ne (b7 y (List.mem_of_getElem? hy))]; exact (b3.at_ j y hy).2.1, rfl⟩
    have kD : (upd B2 D (.lst (rows.map fun y => V.ref y.t))) D = some (.lst (rows.map fun y => V.ref y.t)) := upd_same
    have s3 : Same B (upd B2 D (.lst (rows.map fun y => V.ref y.t))) := same_tr b1 (snew b6)
    generalize upd B2 D (.lst (rows.map fun y => V.ref y.t)) = B3 at R3 M3 kD s3
    clear b1 b2 b3 b5 b6 hD bD
    have rl : rows.length = ts.length := by rw [← b4, List.length_map]
    have ll : (rows.map fun y => V.ref y.t).length = ts.length := by rw [List.length_map, rl]
    -- the draws
    refine ⟨_, rfl, _, rfl, D, _, rfl, Or.inl (Or.inl (Or.inl (R3.s _ _ kD))), r, _, _, rfl, R3.ok, by omega, by rw [ll]; omega, by rw [ll]; omega, fun spot H3 p0 p1 E3 => ?_⟩
    have R4 := R3.dr E3
    have M4 := M3.dr E3
    rw [ll] at p1
    refine ⟨_, rfl, r, 9, _, rfl, R4.ok, by omega, by decide, by decide, fun way H4 w0 w9 E4 => ⟨_, _, rfl, ?_⟩⟩
    have R5 := R4.dr E4
    have M5 := M4.dr E4
    clear R3 R4 M3 M4 E3 E4
    obtain ⟨v, a1, _, a3⟩ := atI_in (xs := rows.map fun y => V.ref y.t) p0 (by rw [ll]; omega)
    rw [List.getElem?_map] at a3
    obtain ⟨y, hy, rfl⟩ := Option.map_eq_some_iff.mp a3
    obtain ⟨c1, c2, c3, os, c4, c5⟩ := M5.at_ _ y hy
    refine ⟨_, rfl, _, rfl, D, _, spot, _, rfl, rfl, Or.inl (Or.inl (R5.s _ _ kD)), a1, y.t, _, rfl, sqt R5.s c1, rfl, _, _, rfl, _, _, rfl, _, _, rfl, rfl, ?_⟩
    have yt : ts[spot.toNat]? = some y.tb := by rw [← b4, List.getElem?_map, hy]; rfl
    have yB := BN.t y.tb (List.mem_of_getElem? yt)
    -- the odd text
    refine ⟨(by show 8 ≤ sizeLine; decide), fun ol hol => ?_⟩
    have R6 := R5.new (o := .lst (ODD.map V.str)) hol
    have M6 := M5.new (o := .lst (ODD.map V.str)) hol
    have ro := R5.ne hol
    have k6 : (upd H4 ol (.lst (ODD.map V.str))) ol = some (.lst (ODD.map V.str)) := upd_same
    refine ⟨_, rfl, r, 8, _, rfl, R6.ok, by omega, by decide, by decide, fun od H6 o0 o8 E6 => ?_⟩
    have R7 := R6.dr E6
    have M7 := M6.dr E6
    have k7 : H6 ol = some (.lst (ODD.map V.str)) := by rw [E6.ne _ ro.symm]; exact k6
    obtain ⟨ov, f1, f2, _⟩ := atI_in (xs := ODD.map V.str) o0 o8
    obtain ⟨ox, hox, rfl⟩ := List.mem_map.mp f2
    obtain ⟨ok1, ok2⟩ := odd_ok ox hox
    refine ⟨ol, _, od, _, rfl, rfl, Or.inl (Or.inl k7), f1, ?_⟩
    -- the zero
    refine ⟨fun x H' => ∃ zl, x = .ref zl ∧ H6 zl = none ∧ Same H6 H' ∧ H' zl = some (.tup ((List.replicate d.toNat 0).map V.int)), ?_, ?_⟩
    case refine_2 =>
      refine ⟨z1, fun tp htp => ⟨_, rfl, tp, d, [.int 0], rfl, rfl, Or.inl (Or.inl upd_same), by simp, hd1, by omega, by simp, fun e => ⟨tp, rfl, htp, snew htp, by rw [upd_same, e]; rfl⟩, fun e q1 hq1 => ?_⟩⟩
      have nq : q1 ≠ tp := fun z => by rw [z, upd_same] at hq1; cases hq1
      refine ⟨q1, rfl, by rw [upd_ne nq] at hq1; exact hq1, same_tr (snew htp) (snew hq1), ?_⟩
      rw [upd_same]
      congr 2
      rw [List.map_replicate]
      induction d.toNat with
      | zero => rfl
      | succ n ih =>
        rw [List.replicate_succ, List.replicate_succ, List.flatten_cons, ih]
        rfl
    rintro _ H7 ⟨zl, rfl, hzl, s7, kz⟩
    have bz := free_of R7.s hzl
    have R8 := (R7.grow s7).keep kz bz (R7.ne hzl)
    have M8 := M7.step (B' := upd B3 zl (.tup ((List.replicate d.toNat 0).map V.int))) (H' := H7) (snew bz) fun j z hz => by
      obtain ⟨_, a2, _, zs, a4, _⟩ := M7.at_ j z hz
      exact ⟨by rw [upd_ne (ne_of_none a4 hzl)]; exact a2, by rw [a4]; exact s7 _ _ a4⟩
    have s8 : Same B (upd B3 zl (.tup ((List.replicate d.toNat 0).map V.int))) := same_tr s3 (snew bz)
    have k8 := snew (o := .tup ((List.replicate d.toNat 0).map V.int)) bz _ _ kD
    have kz8 : (upd B3 zl (.tup ((List.replicate d.toNat 0).map V.int))) zl = some (.tup ((List.replicate d.toNat 0).map V.int)) := upd_same
    generalize upd B3 zl (.tup ((List.replicate d.toNat 0).map V.int)) = B8 at R8 M8 s8 k8 kz8
    clear R5 R6 R7 M5 M6 M7 k6 k7 kz s7 hzl bz E6 hol kD s3 c4 c5 c1
    obtain ⟨c1, c2, c3, os, c4, c5⟩ := M8.at_ _ y hy
    have osl : os.length = y.rs.length := by rw [dps_len c5, List.length_map]
    have yn : y.rs.length ≤ k := yB.n
    -- what all returns end with
    have fin : ∀ {H' : Hp} {p' : Addr} {zs : List V} {ts' : List Tb} {m' : Nat} {B' : Hp}, Same B8 B' → RS r m' B' H' → m' ≤ m + 20 → H' p' = some (.lst zs) → p' ≠ r → DpAll K (cutr H' r) zs (ts'.map Tb.d) → Bn (j + 6) (k + 12) ts' → Q (.ref p') H' := fun {H' p' zs ts' m' B'} sB RB hm' hp' np hdp hbn =>
      q p' (cutr H' r) H' ts' (same_tr s8 (same_tr sB (sc_cut RB.s RB.n))) ((RS.cut RB.ok).mono (by omega)) ⟨zs, by rw [cutr_ne np]; exact hp', hdp⟩ hbn
    have rD8 : D ≠ r := fun z => by rw [z, R8.n] at k8; cases k8
    refine ⟨_, rfl, rfl, _, rfl, ite2 (fun hw => ?_) (fun hw => ?_)⟩
    · -- another name
      have d8 := M8.dps R8
      rw [b4] at d8
      obtain ⟨sn, rfl⟩ : ∃ sn : Nat, spot = (sn : Int) := ⟨spot.toNat, (Int.toNat_of_nonneg p0).symm⟩
      refine ⟨_, rfl, _, rfl, (sn : Int), rfl, D, _, rfl, Or.inl (Or.inl (R8.s _ _ k8)), fun u1 hu1 => ?_⟩
      rw [cut_to _ _ (by rw [ll]; omega)]
      refine ⟨_, rfl, _, rfl, _, rfl, z3, fun t ht => ⟨z1, fun l2 hl2 => ⟨u1, l2, _, _, rfl, rfl, snew hl2 _ _ (snew ht _ _ upd_same), upd_same, ?_, fun l3 hl3 => ?_⟩⟩⟩
      · have : 1000 < sizeLine := by decide
        rw [List.length_take, ll, List.length_singleton]
        omega
      have s9 : Same H7 (upd (upd (upd (upd H7 u1 (.lst ((rows.map fun y => V.ref y.t).take sn))) t (.tup [.str ox, .int y.c, .ref y.l])) l2 (.lst [.ref t])) l3 (.lst ((rows.map fun y => V.ref y.t).take sn ++ [.ref t]))) := same_tr (snew hu1) (same_tr (snew ht) (same_tr (snew hl2) (snew hl3)))
      have kt : (upd (upd (upd (upd H7 u1 (.lst ((rows.map fun y => V.ref y.t).take sn))) t (.tup [.str ox, .int y.c, .ref y.l])) l2 (.lst [.ref t])) l3 (.lst ((rows.map fun y => V.ref y.t).take sn ++ [.ref t]))) t = some (.tup [.str ox, .int y.c, .ref y.l]) := snew hl3 _ _ (snew hl2 _ _ upd_same)
      have k3 : (upd (upd (upd (upd H7 u1 (.lst ((rows.map fun y => V.ref y.t).take sn))) t (.tup [.str ox, .int y.c, .ref y.l])) l2 (.lst [.ref t])) l3 (.lst ((rows.map fun y => V.ref y.t).take sn ++ [.ref t]))) l3 = some (.lst ((rows.map fun y => V.ref y.t).take sn ++ [.ref t])) := upd_same
      generalize upd (upd (upd (upd H7 u1 (.lst ((rows.map fun y => V.ref y.t).take sn))) t (.tup [.str ox, .int y.c, .ref y.l])) l2 (.lst [.ref t])) l3 (.lst ((rows.map fun y => V.ref y.t).take sn ++ [.ref t])) = H9 at s9 kt k3 ⊢
      refine ⟨_, rfl, _, rfl, _, _, rfl, rfl, ((sn + 1 : Nat) : Int), rfl, D, _, rfl, Or.inl (Or.inl (s9 _ _ (R8.s _ _ k8))), fun u4 hu4 => ?_⟩
      rw [cut_from]
      refine ⟨l3, u4, _, _, rfl, rfl, snew hu4 _ _ k3, upd_same, ?_, fun l5 hl5 => ?_⟩
      · have : 1000 < sizeLine := by decide
        rw [List.length_append, List.length_take, List.length_drop, ll, List.length_singleton]
        omega
      have s10 : Same H7 (upd (upd H9 u4 (.lst ((rows.map fun y => V.ref y.t).drop (sn + 1)))) l5 (.lst (((rows.map fun y => V.ref y.t).take sn ++ [.ref t]) ++ (rows.map fun y => V.ref y.t).drop (sn + 1)))) := same_tr s9 (same_tr (snew hu4) (snew hl5))
      have kt10 := snew (o := .lst (((rows.map fun y => V.ref y.t).take sn ++ [.ref t]) ++ (rows.map fun y => V.ref y.t).drop (sn + 1))) hl5 _ _ (snew (o := .lst ((rows.map fun y => V.ref y.t).drop (sn + 1))) hu4 _ _ kt)
      have R10 := R8.grow s10
      have d10 := dpsm (same_cutr (r := r) s10) _ _ d8
      have nr : ∀ {b : Addr}, H7 b = none → b ≠ r := fun {b} e z => by
        obtain ⟨o, ho⟩ := R8.ok.some
        rw [z, ho] at e
        cases e
      have ntr : t ≠ r := nr (by
        have e := ht
        rw [upd_ne fun z => by rw [z, upd_same] at ht; cases ht] at e
        exact e)
      have n5r : l5 ≠ r := fun z => by
        obtain ⟨o, ho⟩ := R8.ok.some
        rw [z, snew hu4 _ _ (s9 _ _ ho)] at hl5
        cases hl5
      have hcut : ∀ {b : Addr} {o : HO} {X : Hp}, b ≠ r → X b = some o → cutr X r b = some o := fun n e => by rw [cutr_ne n]; exact e
      refine fin (ts' := (ts.take sn ++ [⟨ox, y.c, y.rs⟩]) ++ ts.drop (sn + 1)) same_refl R10 (by omega) upd_same n5r ?_ ?_
      · rw [List.map_append, List.map_append, List.map_take, List.map_drop]
        refine dps_app (dps_app (dps_take1 _ d10) (.cons (.tup (Or.inl (Or.inl (hcut ntr kt10))) (.cons (.str _) (.cons (.int _) (.cons (.lst (Or.inl (Or.inl (hcut c3.symm (s10 _ _ c4)))) (dpsm (sc_cut R10.s R10.n) _ _ c5)) .nil)))) .nil)) (dps_drop1 _ d10)
      · refine ⟨?_, fun u hu => ?_⟩
        · rw [List.length_append, List.length_append, List.length_take, List.length_drop]
          show min _ _ + 1 + _ ≤ _
          omega
        · rcases List.mem_append.mp hu with h | h
          · rcases List.mem_append.mp h with h | h
            · have w := BN.t u (List.mem_of_mem_take h)
              exact ⟨w.ok, w.l, w.c, Nat.le_trans w.n (by omega), w.r⟩
            · rw [List.mem_singleton.mp h]
              exact ⟨ok1, ok2, yB.c, Nat.le_trans yB.n (by omega), yB.r⟩
          · have w := BN.t u (List.mem_of_mem_drop h)
            exact ⟨w.ok, w.l, w.c, Nat.le_trans w.n (by omega), w.r⟩
    refine ⟨_, rfl, rfl, _, rfl, ite2 (fun hw1 => ?_) (fun hw1 => ?_)⟩
    · -- a table twice
      refine ⟨_, rfl, _, rfl, _, rfl, _, rfl, D, _, rfl, Or.inl (Or.inl (Or.inl (R8.s _ _ k8))), r, _, _, rfl, R8.ok, by omega, by rw [ll]; omega, by rw [ll]; omega, fun kk H8 q0' q1' E8 => ?_⟩
      have R9 := R8.dr E8
      have M9 := M8.dr E8
      obtain ⟨v, g1, g2, g3⟩ := atI_in q0' q1'
      rw [ll] at q1'
      refine ⟨D, _, kk, v, rfl, rfl, Or.inl (Or.inl (R9.s _ _ k8)), g1, z1, fun l2 hl2 => ⟨D, l2, _, _, rfl, rfl, snew hl2 _ _ (R9.s _ _ k8), upd_same, ?_, fun l3 hl3 => ?_⟩⟩
      · have : 1000 < sizeLine := by decide
        rw [ll, List.length_singleton]
        omega
      have s10 : Same H8 (upd (upd H8 l2 (.lst [v])) l3 (.lst ((rows.map fun y => V.ref y.t) ++ [v]))) := same_tr (snew hl2) (snew hl3)
      have n3r : l3 ≠ r := fun z => by
        obtain ⟨o, ho⟩ := R9.ok.some
        rw [z, snew hl2 _ _ ho] at hl3
        cases hl3
      have d9 := dpsm (same_cutr (r := r) s10) _ _ (M9.dps R9)
      rw [b4] at d9
      obtain ⟨dd, hdd, dv⟩ := dps_get d9 g3
      rw [List.getElem?_map] at hdd
      obtain ⟨tt, htt, rfl⟩ := Option.map_eq_some_iff.mp hdd
      refine fin (ts' := ts ++ [tt]) same_refl (R9.grow s10) (by omega) upd_same n3r ?_ ((BN.mono (Nat.le_refl _) (by omega)).app (fun t ht => ?_) (by show j + 1 ≤ j + 6; omega))
      · rw [List.map_append]
        exact dps_app d9 (.cons dv .nil)
      · rw [List.mem_singleton.mp ht]
        have w := BN.t tt (List.mem_of_getElem? htt)
        exact ⟨w.ok, w.l, w.c, Nat.le_trans w.n (by omega), w.r⟩
    refine ⟨_, rfl, rfl, _, rfl, ite2 (fun hw2 => ?_) (fun hw2 => ?_)⟩
    · -- too many, or none
      refine ⟨_, rfl, (by show 0 ≤ sizeLine; decide), fun nl hnl => ⟨_, rfl, ?_⟩⟩
      have nlr : nl ≠ r := fun z => by
        obtain ⟨o, ho⟩ := R8.ok.some
        rw [z, ho] at hnl
        cases hnl
      have R9 := R8.new (o := .lst []) hnl
      have d9 := dpsm (same_cutr (r := r) (snew (o := .lst []) hnl)) _ _ (M8.dps R8)
      rw [b4] at d9
      have kn : (upd H7 nl (.lst [])) nl = some (.lst []) := upd_same
      have k9 := R9.s _ _ k8
      generalize upd H7 nl (.lst []) = H9 at R9 d9 kn k9 ⊢
      refine ⟨UVW, rfl, fun E hE => ?_⟩
      refine lc_it (walk_str (z := UVW)) (fun i H' => ∃ (B2 : Hp) (zs : List V), B2 r = none ∧ B2 E = none ∧ Same B2 H' ∧ Same H9 H' ∧ H' E = some (.lst zs) ∧ DpAll K B2 zs (((List.range i).map newT).map Tb.d)) ⟨fun _ => none, [], rfl, rfl, fun _ _ h => (by cases h), snew hE, upd_same, .nil⟩ (fun _ _ _ _ => True.intro) ?_ ?_
      · rintro i x _ Hi hi ⟨B2, zs, b1, b2, b3, b9, b4, b5⟩ ⟨rfl, c, hc, rfl⟩
        have ec : UVW.cps.toList.getD i 0 = c := by
          rw [List.getD_eq_getElem?_getD, Array.getElem?_toList, hc]
          rfl
        refine ⟨rfl, yes_if ?_⟩
        refine ⟨_, rfl, "t", ⟨#[c]⟩, rfl, rfl, (by show 1 + 1 ≤ sizeLine; decide), (by show 0 ≤ sizeLine; decide), fun l2 hl2 => ⟨z3, fun u hu2 => ?_⟩⟩
        have bl := free_of b3 hl2
        have hu2' : Hi u = none := by
          have e := hu2
          rw [upd_ne fun z => by rw [z, upd_same] at hu2; cases hu2] at e
          exact e
        have n12 : u ≠ l2 := fun z => by rw [z, upd_same] at hu2; cases hu2
        have bu : (upd B2 l2 (.lst [])) u = none := by rw [upd_ne n12]; exact free_of b3 hu2'
        have nE2 : E ≠ l2 := ne_of_none b4 hl2
        have nEu : E ≠ u := ne_of_none b4 hu2'
        obtain ⟨ro, hro⟩ := R9.ok.some
        have hri := b9 _ _ hro
        have nr2 : r ≠ l2 := ne_of_none hri hl2
        have nru : r ≠ u := ne_of_none hri hu2'
        have sb : Same B2 (upd (upd B2 l2 (.lst [])) u (.tup [.str (("t" : Str) ++ ⟨#[c]⟩), .int 0, .ref l2])) := same_tr (snew bl) (snew bu)
        refine ⟨zs, by rw [upd_ne nEu, upd_ne nE2]; exact b4, small1000 (by rw [dps_len b5, List.length_map, List.length_map, List.length_range]; rw [uvw_n] at hi; omega), upd (upd B2 l2 (.lst [])) u (.tup [.str (("t" : Str) ++ ⟨#[c]⟩), .int 0, .ref l2]), zs ++ [.ref u], by rw [upd_ne nru, upd_ne nr2]; exact b1, by rw [upd_ne nEu, upd_ne nE2]; exact b2, ?_, ?_, upd_same, ?_⟩
        · intro b o h
          have nb : b ≠ E := fun z => by rw [z, upd_ne nEu, upd_ne nE2, b2] at h; cases h
          rw [upd_ne nb]
          by_cases hb1 : b = u
          · rw [hb1, upd_same] at h ⊢
            exact h
          rw [upd_ne hb1] at h ⊢
          by_cases hb2 : b = l2
          · rw [hb2, upd_same] at h ⊢
            exact h
          rw [upd_ne hb2] at h ⊢
          exact b3 _ _ h
        · intro b o h
          rw [upd_ne fun z => by rw [z, hE] at h; cases h]
          exact snew hu2 _ _ (snew hl2 _ _ (b9 _ _ h))
        · rw [List.range_succ, List.map_append, List.map_append]
          refine dps_app (dpsm sb _ _ b5) (.cons (.tup (Or.inl (Or.inl ?_)) (.cons (.str _) (.cons (.int _) (.cons (.lst (Or.inl (Or.inl (by rw [upd_ne n12.symm]; exact upd_same))) .nil) .nil)))) .nil)
          show (upd (upd B2 l2 (.lst [])) u _) u = some (.tup [.str (newT i).n, .int 0, .ref l2])
          unfold newT
          rw [ec]
          exact upd_same
      rintro H10 ⟨B2, zs, b1, b2, b3, s10, b5, b6⟩
      rw [uvw_n] at b6
      have zl6 : zs.length = 6 := by rw [dps_len b6]; rfl
      have hsz : (rows.map fun y => V.ref y.t).length + zs.length ≤ sizeLine := by
        have : 1000 < sizeLine := by decide
        rw [ll]
        omega
      refine ⟨D, E, _, _, rfl, rfl, s10 _ _ k9, b5, hsz, fun l3 hl3 => ⟨z3, fun l4 hl4 => ?_⟩⟩
      obtain ⟨ro, hro⟩ := R9.ok.some
      have n3r : l3 ≠ r := (ne_of_none (s10 _ _ hro) hl3).symm
      have n4r : l4 ≠ r := (ne_of_none (snew hl3 _ _ (s10 _ _ hro)) hl4).symm
      have R11 := (R9.grow s10).new (o := .lst ((rows.map fun y => V.ref y.t) ++ zs)) hl3
      have R12 := R11.new (o := .lst [.ref D, .ref nl, .ref l3]) hl4
      have s12 : Same H10 (upd (upd H10 l3 (.lst ((rows.map fun y => V.ref y.t) ++ zs))) l4 (.lst [.ref D, .ref nl, .ref l3])) := same_tr (snew hl3) (snew hl4)
      have k3 := snew (o := .lst [.ref D, .ref nl, .ref l3]) hl4 _ _ (upd_same (H := H10) (a := l3) (o := .lst ((rows.map fun y => V.ref y.t) ++ zs)))
      have k4 : (upd (upd H10 l3 (.lst ((rows.map fun y => V.ref y.t) ++ zs))) l4 (.lst [.ref D, .ref nl, .ref l3])) l4 = some (.lst [.ref D, .ref nl, .ref l3]) := upd_same
      have kn4 := s12 _ _ (s10 _ _ kn)
      have kD4 := s12 _ _ (s10 _ _ k9)
      have d12 := dpsm (same_cutr (r := r) (same_tr s10 s12)) _ _ d9
      have dz := dpsm (sc_cut (same_tr b3 s12) b1) _ _ b6
      generalize upd (upd H10 l3 (.lst ((rows.map fun y => V.ref y.t) ++ zs))) l4 (.lst [.ref D, .ref nl, .ref l3]) = H12 at R12 s12 k3 k4 kn4 kD4 d12 dz ⊢
      refine ⟨_, rfl, r, 3, _, rfl, R12.ok, by omega, by decide, by decide, fun kk H13 v0 v3 E13 => ?_⟩
      have R13 := R12.dr E13
      have to : ∀ {b : Addr} {o : HO}, b ≠ r → H12 b = some o → H13 b = some o := fun n e => by rw [E13.ne _ n]; exact e
      have sc : Same (cutr H12 r) (cutr H13 r) := fun b o h => by
        by_cases n : b = r
        · unfold cutr at h
          rw [if_pos n] at h
          cases h
        · rw [cutr_ne n] at h ⊢
          exact to n h
      obtain ⟨v, g1, g2, _⟩ := atI_in (xs := [V.ref D, V.ref nl, V.ref l3]) v0 v3
      refine ⟨l4, _, kk, v, rfl, rfl, Or.inl (Or.inl (to n4r k4)), g1, ?_⟩
      simp only [List.mem_cons, List.not_mem_nil, or_false] at g2
      rcases g2 with rfl | rfl | rfl
      · exact fin (ts' := ts) same_refl R13 (by omega) (to rD8 kD4) rD8 (dpsm sc _ _ d12) (BN.mono (by omega) (by omega))
      · exact fin (ts' := []) same_refl R13 (by omega) (to nlr kn4) nlr .nil ⟨Nat.zero_le _, fun t ht => by cases ht⟩
      · refine fin (ts' := ts ++ (List.range 6).map newT) same_refl R13 (by omega) (to n3r k3) n3r ?_ ((BN.mono (Nat.le_refl _) (by omega)).app (fun t ht => ?_) (by rw [List.length_map, List.length_range]; exact Nat.le_refl _))
        · rw [List.map_append]
          exact dps_app (dpsm sc _ _ d12) (dpsm sc _ _ dz)
        · obtain ⟨i, hi, rfl⟩ := List.mem_map.mp ht
          exact new_B (List.mem_range.mp hi)
    have S0 : SR K r _ B8 H7 rows := ⟨R8, M8⟩
    have sT : Same B8 B8 := same_refl
    clear R8 M8 c1 c4 c5
    obtain ⟨C0, hC0⟩ : ∃ X, X = B8 := ⟨_, rfl⟩
    obtain ⟨G0, hG0⟩ : ∃ X, X = H7 := ⟨_, rfl⟩
    rw [← hC0] at S0
    rw [← hG0] at S0 ⊢
    have sT : Same B8 C0 := by rw [hC0]; exact same_refl
    rw [← hC0] at kz8 k8 c2
    have dn : List.replicate d.toNat (0 : Int) ≠ [] := by intro z; have := congrArg List.length z; rw [List.length_replicate, List.length_nil] at this; omega
    obtain ⟨zr, hzr⟩ : ∃ zr, zr = List.replicate d.toNat (0 : Int) := ⟨_, rfl⟩
    rw [← hzr] at kz8 dn
    have zrl : zr.length ≤ 3 := by rw [hzr, List.length_replicate]; omega
    have zr0 : ∀ i ∈ zr, i = 0 := fun i hi => by rw [hzr] at hi; exact List.eq_of_mem_replicate hi
    refine ⟨_, rfl, _, rfl, z3, fun t1 h1 => ?_⟩
    have sS := S0.sb (o := .tup [.str ox, .ref zl, .int 1]) h1
    have S1 := S0.nk (o := .tup [.str ox, .ref zl, .int 1]) h1
    have e1 : (upd C0 t1 (.tup [.str ox, .ref zl, .int 1])) t1 = some (.tup [.str ox, .ref zl, .int 1]) := upd_same
    have kz8 := sS _ _ kz8
    have k8 := sS _ _ k8
    have sT := same_tr sT sS
    generalize upd C0 t1 (.tup [.str ox, .ref zl, .int 1]) = C1 at sS S1 sT e1 kz8 k8
    generalize upd G0 t1 (.tup [.str ox, .ref zl, .int 1]) = G1 at S1 ⊢
    clear sS S0 h1
    refine ⟨_, rfl, _, rfl, 1, rfl, zl, _, rfl, Or.inl (Or.inl (S1.rs.s _ _ kz8)), fun h => absurd h ?_, fun _ q1 hq1 => ?_⟩
    · cases hz : zr with
      | nil => exact absurd hz dn
      | cons a l => exact cut_whole1
    rw [show cutV (zr.map V.int) (some 1) none = (zr.drop 1).map V.int by cases hz : zr with | nil => exact absurd hz dn | cons a l => exact cut_tl _ _] at *
    have sS := S1.sb (o := .tup ((zr.drop 1).map V.int)) hq1
    have S2 := S1.nk (o := .tup ((zr.drop 1).map V.int)) hq1
    have f1' : (upd C1 q1 (.tup ((zr.drop 1).map V.int))) q1 = some (.tup ((zr.drop 1).map V.int)) := upd_same
    have kz8 := sS _ _ kz8
    have k8 := sS _ _ k8
    have e1 := sS _ _ e1
    have sT := same_tr sT sS
    generalize upd C1 q1 (.tup ((zr.drop 1).map V.int)) = C2 at sS S2 sT f1' kz8 k8 e1
    generalize upd G1 q1 (.tup ((zr.drop 1).map V.int)) = G2 at S2 ⊢
    clear sS S1 hq1
    refine ⟨z3, fun t2 h2 => ?_⟩
    have sS := S2.sb (o := .tup [.str y.w, .ref q1, .int 1]) h2
    have S3 := S2.nk (o := .tup [.str y.w, .ref q1, .int 1]) h2
    have e2 : (upd C2 t2 (.tup [.str y.w, .ref q1, .int 1])) t2 = some (.tup [.str y.w, .ref q1, .int 1]) := upd_same
    have kz8 := sS _ _ kz8
    have k8 := sS _ _ k8
    have e1 := sS _ _ e1
    have f1' := sS _ _ f1'
    have sT := same_tr sT sS
    generalize upd C2 t2 (.tup [.str y.w, .ref q1, .int 1]) = C3 at sS S3 sT e2 kz8 k8 e1 f1'
    generalize upd G2 t2 (.tup [.str y.w, .ref q1, .int 1]) = G3 at S3 ⊢
    clear sS S2 h2
    refine ⟨_, rfl, _, rfl, z1, fun a0 ha0 => ?_⟩
    have sS := S3.sb (o := .tup [.int 0]) ha0
    have S4 := S3.nk (o := .tup [.int 0]) ha0
    have f2' : (upd C3 a0 (.tup [.int 0])) a0 = some (.tup [.int 0]) := upd_same
    have kz8 := sS _ _ kz8
    have k8 := sS _ _ k8
    have e1 := sS _ _ e1
    have f1' := sS _ _ f1'
    have e2 := sS _ _ e2
    have sT := same_tr sT sS
    generalize upd C3 a0 (.tup [.int 0]) = C4 at sS S4 sT f2' kz8 k8 e1 f1' e2
    generalize upd G3 a0 (.tup [.int 0]) = G4 at S4 ⊢
    clear sS S3 ha0
    have z4' : zr.length + 1 ≤ sizeLine := Nat.le_trans (Nat.succ_le_succ zrl) (by decide)
    refine ⟨zl, a0, _, _, rfl, rfl, Or.inl (Or.inl (S4.rs.s _ _ kz8)), Or.inl (Or.inl (S4.rs.s _ _ f2')), (by rw [List.length_map]; exact z4'), fun h => absurd (List.map_eq_nil_iff.mp h) dn, fun _ h => (by cases h), fun _ _ q2 hq2 => ?_⟩
    rw [show zr.map V.int ++ [V.int 0] = (zr ++ [0]).map V.int by rw [List.map_append]; rfl] at *
    have sS := S4.sb (o := .tup ((zr ++ [0]).map V.int)) hq2
    have S5 := S4.nk (o := .tup ((zr ++ [0]).map V.int)) hq2
    have f3' : (upd C4 q2 (.tup ((zr ++ [0]).map V.int))) q2 = some (.tup ((zr ++ [0]).map V.int)) := upd_same
    have kz8 := sS _ _ kz8
    have k8 := sS _ _ k8
    have e1 := sS _ _ e1
    have f1' := sS _ _ f1'
    have e2 := sS _ _ e2
    have f2' := sS _ _ f2'
    have sT := same_tr sT sS
    generalize upd C4 q2 (.tup ((zr ++ [0]).map V.int)) = C5 at sS S5 sT f3' kz8 k8 e1 f1' e2 f2'
    generalize upd G4 q2 (.tup ((zr ++ [0]).map V.int)) = G5 at S5 ⊢
    clear sS S4 hq2
    refine ⟨z3, fun t3 h3 => ?_⟩
    have sS := S5.sb (o := .tup [.str y.w, .ref q2, .int 1]) h3
    have S6 := S5.nk (o := .tup [.str y.w, .ref q2, .int 1]) h3
    have e3 : (upd C5 t3 (.tup [.str y.w, .ref q2, .int 1])) t3 = some (.tup [.str y.w, .ref q2, .int 1]) := upd_same
    have kz8 := sS _ _ kz8
    have k8 := sS _ _ k8
    have e1 := sS _ _ e1
    have f1' := sS _ _ f1'
    have e2 := sS _ _ e2
    have f2' := sS _ _ f2'
    have f3' := sS _ _ f3'
    have sT := same_tr sT sS
    generalize upd C5 t3 (.tup [.str y.w, .ref q2, .int 1]) = C6 at sS S6 sT e3 kz8 k8 e1 f1' e2 f2' f3'
    generalize upd G5 t3 (.tup [.str y.w, .ref q2, .int 1]) = G6 at S6 ⊢
    clear sS S5 h3
    refine ⟨_, rfl, _, rfl, z3, fun t4 h4 => ?_⟩
    have sS := S6.sb (o := .tup [.str y.w, .ref zl, .int 0]) h4
    have S7 := S6.nk (o := .tup [.str y.w, .ref zl, .int 0]) h4
    have e4 : (upd C6 t4 (.tup [.str y.w, .ref zl, .int 0])) t4 = some (.tup [.str y.w, .ref zl, .int 0]) := upd_same
    have kz8 := sS _ _ kz8
    have k8 := sS _ _ k8
    have e1 := sS _ _ e1
    have f1' := sS _ _ f1'
    have e2 := sS _ _ e2
    have f2' := sS _ _ f2'
    have f3' := sS _ _ f3'
    have e3 := sS _ _ e3
    have sT := same_tr sT sS
    generalize upd C6 t4 (.tup [.str y.w, .ref zl, .int 0]) = C7 at sS S7 sT e4 kz8 k8 e1 f1' e2 f2' f3' e3
    generalize upd G6 t4 (.tup [.str y.w, .ref zl, .int 0]) = G7 at S7 ⊢
    clear sS S6 h4
    refine ⟨_, rfl, z3, fun t5 h5 => ?_⟩
    have sS := S7.sb (o := .tup [.str "missing", .ref zl, .int 1]) h5
    have S8 := S7.nk (o := .tup [.str "missing", .ref zl, .int 1]) h5
    have e5 : (upd C7 t5 (.tup [.str "missing", .ref zl, .int 1])) t5 = some (.tup [.str "missing", .ref zl, .int 1]) := upd_same
    have kz8 := sS _ _ kz8
    have k8 := sS _ _ k8
    have e1 := sS _ _ e1
    have f1' := sS _ _ f1'
    have e2 := sS _ _ e2
    have f2' := sS _ _ f2'
    have f3' := sS _ _ f3'
    have e3 := sS _ _ e3
    have e4 := sS _ _ e4
    have sT := same_tr sT sS
    generalize upd C7 t5 (.tup [.str "missing", .ref zl, .int 1]) = C8 at sS S8 sT e5 kz8 k8 e1 f1' e2 f2' f3' e3 e4
    generalize upd G7 t5 (.tup [.str "missing", .ref zl, .int 1]) = G8 at S8 ⊢
    clear sS S7 h5
    refine ⟨(by show 5 ≤ sizeLine; decide), fun ml hml => ?_⟩
    have sS := S8.sb (o := .lst [.ref t1, .ref t2, .ref t3, .ref t4, .ref t5]) hml
    have S9 := S8.nk (o := .lst [.ref t1, .ref t2, .ref t3, .ref t4, .ref t5]) hml
    have eml : (upd C8 ml (.lst [.ref t1, .ref t2, .ref t3, .ref t4, .ref t5])) ml = some (.lst [.ref t1, .ref t2, .ref t3, .ref t4, .ref t5]) := upd_same
    have kz8 := sS _ _ kz8
    have k8 := sS _ _ k8
    have e1 := sS _ _ e1
    have f1' := sS _ _ f1'
    have e2 := sS _ _ e2
    have f2' := sS _ _ f2'
    have f3' := sS _ _ f3'
    have e3 := sS _ _ e3
    have e4 := sS _ _ e4
    have e5 := sS _ _ e5
    have sT := same_tr sT sS
    generalize upd C8 ml (.lst [.ref t1, .ref t2, .ref t3, .ref t4, .ref t5]) = C9 at sS S9 sT eml kz8 k8 e1 f1' e2 f2' f3' e3 e4 e5
    generalize upd G8 ml (.lst [.ref t1, .ref t2, .ref t3, .ref t4, .ref t5]) = G9 at S9 ⊢
    clear sS S8 hml
    refine ⟨_, rfl, way, 8, rfl, rfl, decide (way < 8), rfl, ite2 (fun hw8 => ?_) (fun hw8 => ?_)⟩
    · -- a read put in
      obtain ⟨c1, c2, c3, os, c4, c5⟩ := S9.ro.at_ _ y hy
      have osl : os.length = y.rs.length := by rw [dps_len c5, List.length_map]
      refine ⟨_, rfl, Or.inl ⟨rfl, _, Or.inl (Or.inl c4)⟩, _, rfl, _, rfl, y.l, _, rfl, Or.inl (Or.inl (Or.inl c4)), _, _, rfl, rfl, r, _, _, rfl, S9.rs.ok, by omega, by omega, by omega, fun ip H10 i0 i1 E10 => ?_⟩
      have S10 := S9.dr E10
      refine ⟨_, rfl, _, rfl, way, 3, rfl, rfl, ?_⟩
      obtain ⟨rds, hrds⟩ : ∃ rds : List Rd1, rds = [⟨ox, zr, 1⟩, ⟨y.w, zr.drop 1, 1⟩, ⟨y.w, zr ++ [0], 1⟩, ⟨y.w, zr, 0⟩, ⟨"missing", zr, 1⟩] := ⟨_, rfl⟩
      obtain ⟨mv, hmv⟩ : ∃ mv, mv = [V.ref t1, V.ref t2, V.ref t3, V.ref t4, V.ref t5] := ⟨_, rfl⟩
      have vz : Dp K C9 (.ref zl) (.tuple (zr.map .int)) := .tup (Or.inl (Or.inl kz8)) (ints_dps _)
      have dm : DpAll K C9 mv (rds.map Rd1.d) := by
        rw [hmv, hrds]
        exact .cons (.tup (Or.inl (Or.inl e1)) (.cons (.str _) (.cons vz (.cons (.int _) .nil)))) (.cons (.tup (Or.inl (Or.inl e2)) (.cons (.str _) (.cons (.tup (Or.inl (Or.inl f1')) (ints_dps _)) (.cons (.int _) .nil)))) (.cons (.tup (Or.inl (Or.inl e3)) (.cons (.str _) (.cons (.tup (Or.inl (Or.inl f3')) (ints_dps _)) (.cons (.int _) .nil)))) (.cons (.tup (Or.inl (Or.inl e4)) (.cons (.str _) (.cons vz (.cons (.int _) .nil)))) (.cons (.tup (Or.inl (Or.inl e5)) (.cons (.str _) (.cons vz (.cons (.int _) .nil)))) .nil))))
      have zb : ∀ i ∈ zr, -1000 ≤ i ∧ i ≤ 1000 := fun i hi => by rw [zr0 i hi]; omega
      have bm : ∀ x ∈ rds, BnR x := by
        rw [hrds]
        intro x hx
        simp only [List.mem_cons, List.not_mem_nil, or_false] at hx
        have yl := yB.l
        have yo := yB.ok
        rcases hx with rfl | rfl | rfl | rfl | rfl
        · exact ⟨ok1, ok2, by show zr.length ≤ 10; omega, zb, lo1⟩
        · exact ⟨yo, yl, by show (zr.drop 1).length ≤ 10; rw [List.length_drop]; omega, fun i hi => zb i (List.mem_of_mem_drop hi), lo1⟩
        · refine ⟨yo, yl, by show (zr ++ [0]).length ≤ 10; rw [List.length_append]; exact Nat.le_trans (Nat.succ_le_succ zrl) (by decide), fun i hi => ?_, lo1⟩
          rcases List.mem_append.mp hi with h | h
          · exact zb i h
          · rw [List.mem_singleton.mp h]
            decide
        · exact ⟨yo, yl, by show zr.length ≤ 10; omega, zb, lo0⟩
        · exact ⟨miss.1, miss.2, by show zr.length ≤ 10; omega, zb, lo1⟩
      have w3 : 3 ≤ way := by
        have b1 : way ≠ 0 := fun z => hw (by rw [z]; exact decide_eq_true rfl)
        have b2 : way ≠ 1 := fun z => hw1 (by rw [z]; exact decide_eq_true rfl)
        have b3 : way ≠ 2 := fun z => hw2 (by rw [z]; exact decide_eq_true rfl)
        omega
      have w8 : way < 8 := of_decide_eq_true hw8
      obtain ⟨v, g1, g2, g3⟩ := atI_in (xs := mv) (i := way - 3) (by omega) (by rw [hmv]; show way - 3 < 5; omega)
      obtain ⟨dd, hdd, dv⟩ := dps_get dm g3
      rw [List.getElem?_map] at hdd
      obtain ⟨rd, hrd, rfl⟩ := Option.map_eq_some_iff.mp hdd
      have brd := bm rd (List.mem_of_getElem? hrd)
      rw [← hmv] at eml
      refine ⟨ml, mv, way - 3, v, rfl, rfl, Or.inl (Or.inl (S10.rs.s _ _ eml)), g1, ?_⟩
      obtain ⟨_, _, _, os', c4', c5'⟩ := S10.ro.at_ _ y hy
      have osl' : os'.length = y.rs.length := by rw [dps_len c5', List.length_map]
      have M11 := S10.ro.putX (os := os'.take ip.toNat ++ [v] ++ os'.drop ip.toNat) (rs' := y.rs.take ip.toNat ++ [rd] ++ y.rs.drop ip.toNat) hy (by
        rw [List.map_append, List.map_append, List.map_take, List.map_drop]
        exact dps_app (dps_app (dps_take1 _ c5') (.cons dv .nil)) (dps_drop1 _ c5'))
      have R11 := S10.rs.put (o := .lst (os'.take ip.toNat ++ [v] ++ os'.drop ip.toNat)) c2 c3
      have nDl : D ≠ y.l := fun z => by rw [z, c2] at k8; cases k8
      have hl : (y.rs.take ip.toNat ++ [rd] ++ y.rs.drop ip.toNat).length ≤ k + 12 := by
        rw [List.length_append, List.length_append, List.length_take, List.length_drop]
        show min _ _ + 1 + _ ≤ _
        omega
      refine ⟨y.l, os', ip, v, rfl, rfl, c4', small1000 (by omega), i0, by omega, _, rfl, ?_⟩
      refine fin (zs := rows.map fun y => V.ref y.t) (ts' := (rows.set spot.toNat { y with rs := y.rs.take ip.toNat ++ [rd] ++ y.rs.drop ip.toNat }).map Row1.tb) sT R11 (by omega) (by rw [upd_ne nDl]; exact S10.rs.s _ _ k8) rD8 ?_ (Bn.set (by rw [b4]; exact BN) hy (by omega) (by omega) hl ?_)
      · have z := M11.dps R11
        rw [map_set_same (f := fun y : Row1 => V.ref y.t) hy (by rfl)] at z
        exact z
      · intro x hx
        rcases List.mem_append.mp hx with h | h
        · rcases List.mem_append.mp h with h | h
          · exact yB.r x (List.mem_of_mem_take h)
          · rw [List.mem_singleton.mp h]
            exact brd
        · exact yB.r x (List.mem_of_mem_drop h)
    · -- reads put behind
      refine ⟨_, rfl, Or.inl ⟨rfl, _, Or.inl (Or.inl (S9.ro.at_ _ y hy).2.2.2.choose_spec.1)⟩, _, rfl, _, rfl, z3, fun t6 h6 => ?_⟩
      have sS := S9.sb (o := .tup [.str y.w, .ref zl, .int 1]) h6
      have S10 := S9.nk (o := .tup [.str y.w, .ref zl, .int 1]) h6
      have e6 : (upd C9 t6 (.tup [.str y.w, .ref zl, .int 1])) t6 = some (.tup [.str y.w, .ref zl, .int 1]) := upd_same
      have kz8 := sS _ _ kz8
      have k8 := sS _ _ k8
      have sT := same_tr sT sS
      generalize upd C9 t6 (.tup [.str y.w, .ref zl, .int 1]) = C10 at sS S10 sT e6 kz8 k8
      generalize upd G9 t6 (.tup [.str y.w, .ref zl, .int 1]) = G10 at S10 ⊢
      refine ⟨z1, fun l6 hl6 => ?_⟩
      have sS2 := S10.sb (o := .lst [.ref t6]) hl6
      have S11 := S10.nk (o := .lst [.ref t6]) hl6
      have e7 : (upd C10 l6 (.lst [.ref t6])) l6 = some (.lst [.ref t6]) := upd_same
      have e6 := sS2 _ _ e6
      have kz8 := sS2 _ _ kz8
      have k8 := sS2 _ _ k8
      have sT := same_tr sT sS2
      generalize upd C10 l6 (.lst [.ref t6]) = C11 at sS2 S11 sT e6 e7 kz8 k8
      generalize upd G10 l6 (.lst [.ref t6]) = G11 at S11 ⊢
      refine ⟨_, rfl, r, 7, _, rfl, S11.rs.ok, by omega, by decide, by decide, fun dw H12 dw0 dw7 E12 => ⟨_, _, rfl, rfl, ?_⟩⟩
      have S12 := S11.dr E12
      refine ⟨l6, 12 - dw, [.ref t6], rfl, rfl, S12.rs.s _ _ e7, by omega, by omega, (by have : 100 < sizeLine := by decide
                                                                                         rw [List.length_singleton]; omega), fun p6 hp6 => ?_⟩
      have erep : ∀ n : Nat, (List.replicate n [V.ref t6]).flatten = List.replicate n (V.ref t6) := fun n => by
        induction n with
        | zero => rfl
        | succ n ih =>
          rw [List.replicate_succ, List.replicate_succ, List.flatten_cons, ih]
          rfl
      rw [erep]
      obtain ⟨n6, hn6⟩ : ∃ n6 : Nat, n6 = (12 - dw).toNat := ⟨_, rfl⟩
      have n12 : n6 ≤ 12 := by omega
      rw [← hn6]
      have S13 := S12.nk (o := .lst (List.replicate n6 (.ref t6))) hp6
      have sS3 := S12.sb (o := .lst (List.replicate n6 (.ref t6))) hp6
      have k13 := sS3 _ _ k8
      have vz : Dp K (upd C11 p6 (.lst (List.replicate n6 (.ref t6)))) (.ref zl) (.tuple (zr.map .int)) := .tup (Or.inl (Or.inl (sS3 _ _ kz8))) (ints_dps _)
      have dr : Dp K (upd C11 p6 (.lst (List.replicate n6 (.ref t6)))) (.ref t6) (Rd1.d ⟨y.w, zr, 1⟩) := .tup (Or.inl (Or.inl (sS3 _ _ e6))) (.cons (.str _) (.cons vz (.cons (.int _) .nil)))
      have drs : ∀ n : Nat, DpAll K (upd C11 p6 (.lst (List.replicate n6 (.ref t6)))) (List.replicate n (V.ref t6)) ((List.replicate n (⟨y.w, zr, 1⟩ : Rd1)).map Rd1.d) := fun n => by
        induction n with
        | zero => exact .nil
        | succ n ih => exact .cons dr ih
      obtain ⟨_, c2', c3', os', c4', c5'⟩ := S13.ro.at_ _ y hy
      have osl' : os'.length = y.rs.length := by rw [dps_len c5', List.length_map]
      have zb : ∀ i ∈ zr, -1000 ≤ i ∧ i ≤ 1000 := fun i hi => by rw [zr0 i hi]; omega
      have M14 := S13.ro.putX (os := os' ++ List.replicate n6 (.ref t6)) (rs' := y.rs ++ List.replicate n6 ⟨y.w, zr, 1⟩) hy (by
        rw [List.map_append]
        exact dps_app c5' (drs n6))
      have R14 := S13.rs.put (o := .lst (os' ++ List.replicate n6 (.ref t6))) c2' c3'
      have nDl : D ≠ y.l := fun z => by rw [z, c2'] at k13; cases k13
      refine ⟨y.l, p6, os', List.replicate n6 (.ref t6), rfl, rfl, c4', upd_same, (by have : 1000 < sizeLine := by decide
                                                                                      rw [List.length_replicate]; omega), _, rfl, ?_⟩
      refine fin (zs := rows.map fun y => V.ref y.t) (ts' := (rows.set spot.toNat { y with rs := y.rs ++ List.replicate n6 ⟨y.w, zr, 1⟩ }).map Row1.tb) (same_tr sT sS3) R14 (by omega) (by rw [upd_ne nDl]; exact S13.rs.s _ _ k13) rD8 ?_ (Bn.set (by rw [b4]; exact BN) hy (by omega) (by omega) (by rw [List.length_append, List.length_replicate]; omega) ?_)
      · have z := M14.dps R14
        rw [map_set_same (f := fun y : Row1 => V.ref y.t) hy (by rfl)] at z
        exact z
      · intro x hx
        rcases List.mem_append.mp hx with h | h
        · exact yB.r x h
        · rw [List.eq_of_mem_replicate h]
          exact ⟨yB.ok, yB.l, by show zr.length ≤ 10; omega, zb, lo1⟩
end
end Fr

namespace Fr
open PySem PySem.Spec PyProof.Rows L2
abbrev s_law : Stmt := topS 39
theorem sc_law : FnScope ["_law_script", "_law_rng_here", "_law_lap", "_law_dims", "_law_base", "_law_rows", "_law_turn", "_law_kept", "_law_odd", "_law_size", "_law_modulo"] ["_law_script"] (defScope s_law) := ⟨rfl, rfl, rfl, by decide +kernel, rfl, by decide +kernel, by decide +kernel⟩
-- slots: 0 _law_script, 1 _law_rng_here, 2 _law_lap, 3 _law_dims, 4 _law_base, 5 _law_rows, 6 _law_turn, 7 _law_kept, 8 _law_odd, 9 _law_size, 10 _law_modulo
section
variable {P : Program} {w : World} {K : PySem.W.Frag} {mg : Str → Option Value} {base : Heap}
def BASES : List Int := [2, 1, 0, -1, 0 - 10 ^ (30 : Int).toNat, 97]
def ODDS (d : Int) : List Int := [d, d, 0, 4, -1, 10 ^ (30 : Int).toNat]
/-- rows, as the law has them -/
structure Rws (K : PySem.W.Frag) (TT : List (Addr × Str)) (r : Addr) (m : Nat) (H : Hp) (p : Addr) (ts : List Tb) (j k : Nat) : Prop where
  ok : RngOk H r m
  tb : LamX.Tabs TT H
  ld : LD K (cutr H r) p (ts.map Tb.d)
  bn : Bn j k ts
theorem cut_sub {H : Hp} {r : Addr} : Same (cutr H r) H := fun b o h => by
  by_cases n : b = r
  · unfold cutr at h
    rw [if_pos n] at h
    cases h
  · rw [cutr_ne n] at h
    exact h
theorem cut_drr {H H' : Hp} {r : Addr} {m : Nat} (d : Dr r m H H') : Same (cutr H r) (cutr H' r) := fun b o h => by
  by_cases n : b = r
  · unfold cutr at h
    rw [if_pos n] at h
    cases h
  · rw [cutr_ne n] at h ⊢
    rw [d.ne _ n]
    exact h
theorem Rws.dr {TT : List (Addr × Str)} {r p : Addr} {m m' : Nat} {H H' : Hp} {ts : List Tb} {j k : Nat} (h : Rws K TT r m H p ts j k) (d : Dr r m' H H') : Rws K TT r m' H' p ts j k := ⟨d.ok, tabs_dr h.tb h.ok d, h.ld.grow (cut_drr d), h.bn⟩
theorem Rws.gr {TT : List (Addr × Str)} {r p : Addr} {m : Nat} {H H' : Hp} {ts : List Tb} {j k : Nat} (h : Rws K TT r m H p ts j k) (e : Same H H') : Rws K TT r m H' p ts j k := ⟨by
  obtain ⟨a, b, c, z, n⟩ := h.ok
  exact ⟨a, b, c, e _ _ z, n⟩, h.tb.ext e, h.ld.grow (same_cutr e), h.bn⟩
theorem Rws.mono {TT : List (Addr × Str)} {r p : Addr} {m m' : Nat} {H : Hp} {ts : List Tb} {j k j' k' : Nat} (h : Rws K TT r m H p ts j k) (a : m ≤ m') (b : j ≤ j') (c : k ≤ k') : Rws K TT r m' H p ts j' k' := ⟨h.ok.mono a, h.tb, h.ld, h.bn.mono b c⟩
theorem okT_bn {d : Int} {ts : List Tb} (O : OkT d ts) (hd : d ≤ 3) (ok : ∀ t ∈ ts, PyData.strOk t.n = true) (sm : ∀ t ∈ ts, SmT t) (l : ts.length ≤ 6) : Bn 6 12 ts := by
  refine ⟨l, fun t ht => ?_⟩
  have hn := O.names t ht
  unfold isName at hn
  simp only [Bool.and_eq_true, decide_eq_true_eq] at hn
  have hc := (sm t ht).c
  have fr := few_reads O ht
  refine ⟨ok t ht, by omega, by omega, fr, fun rd hrd => ?_⟩
  obtain ⟨u, hu, e⟩ := List.mem_map.mp (O.here t ht rd hrd)
  have hr := O.reads t ht rd hrd
  have hn2 := O.names u hu
  unfold isName at hn2
  unfold isRead at hr
  simp only [Bool.and_eq_true, decide_eq_true_eq] at hn2 hr
  refine ⟨by rw [← e]; exact ok u hu, by rw [← e]; omega, by omega, (sm t ht).v rd hrd, (sm t ht).f rd hrd⟩
def wdD (b : Bool) (n : Int) : PyData := .tuple [.str (wordB b), .int n]
theorem wd_at {H : Hp} {l : Addr} {b : Bool} {n : Int} (h : H l = some (.tup [.str (wordB b), .int n])) : Dp K H (.ref l) (wdD b n) := .tup (Or.inl (Or.inl h)) (.cons (.str _) (.cons (.int _) .nil))
theorem wd_eq {b : Bool} {n : Int} : PyData.eqv (wdD b n) (wdD b n) = true := by simp [wdD, PyData.eqv, PyData.eqvAll]
theorem wd_ok : ∀ b : Bool, PyData.strOk (wordB b) = true := by decide +kernel
theorem wd_shp {b : Bool} {n : Int} : SeqAt.shaped (wdD b n) = true := by
  unfold SeqAt.shaped
  rw [Bool.and_eq_true]
  exact ⟨by simp [wdD, PyData.canLay0, PyData.canLayAll0, wd_ok b], decide_eq_true (by simp [wdD, PyData.depth, PyData.depthAll])⟩
def spLaw2 (K : PySem.W.Frag) (TT : List (Addr × Str)) : Sp := fun vs H Q _ => ∃ (a : Addr) (ns : List Int), vs = [.ref a] ∧ SqL K H a (ns.map V.int) ∧ ns.length ≤ 63 ∧ LamX.Tabs TT H ∧ ∀ H', Q (.bl true) H'
theorem ok_law2 {f : Addr} {fd : FuncData} {TT : List (Addr × Str)} (F : Fun K "law" "law" s_law f fd) (T : Txt mg) (zr : mg "repr" = none) (c_Lrng : C8.Cal P w K mg base 1 "_law_rng" (spRng K) []) (c_Ldraw : C8.Cal P w K mg base 1 "_law_draw" spDraw []) (c_Lmade_rows : C8.Cal P w K mg base 3 "_law_made_rows" (spRows K) [])
    (c_Lbent : C8.Cal P w K mg base 2 "_law_bent" (spBent K) []) (c_Lraised : C8.Cal P w K mg base 7 "_law_raised" (spRaised K TT) []) (c_Ldue : C8.Cal P w K mg base 2 "_law_due" (spDue K) []) : FnG P w K mg base 8 f fd ["_law_script"] (spLaw2 K TT) := by
  refine Fun_okG F sc_law (fun vs H Q E h => ?_) (fun cdv A outer sh H vs Q E hr h => ?_)
  · obtain ⟨a, ns, rfl, _⟩ := h
    rfl
  · obtain ⟨a, ns, rfl, ha, hl, hT, q⟩ := h
    refine ⟨_, (pss_cons (ps_set (i := 1) sc_law.nd rfl (by first | exact Or.inl rfl | exact Or.inr rfl) (C8.pe_c c_Lrng hr.room (by decide) (by rfl) (pa_cons (pv 0) pa_nil)))
  (pss_cons (ps_for PassesOwn.never rfl (pi_range1 (by rfl) T.b_range (pa_cons (pe_op op_add pe_int (pe_callB (call_min2 rfl) (by rfl) T.b_min (by decide +kernel) (pa_cons pe_int (pa_cons (pe_callB call_len_seq (by rfl) T.b_len PySem.boot_len (pa_cons (pv 0) pa_nil)) pa_nil)))) pa_nil)) (pg_name (i := 2) sc_law.nd rfl (by first | exact Or.inl rfl | exact Or.inr rfl))
    (pss_cons (ps_par (i := 3) (j := 4) (by rfl) sc_law.nd rfl rfl (by decide) rfl rfl (pa_cons (pe_op op_add pe_int (C8.pe_c c_Ldraw hr.room (by decide) (by rfl) (pa_cons (pv 1) (pa_cons pe_int pa_nil)))) (pa_cons (pe_ix ix_list (pe_lst (pa_cons pe_int (pa_cons pe_int (pa_cons pe_int (pa_cons (pe_un un_neg pe_int) (pa_cons (pe_op op_sub pe_int (pe_op op_pow pe_int pe_int)) (pa_cons pe_int pa_nil))))))) (C8.pe_c c_Ldraw hr.room (by decide) (by rfl) (pa_cons (pv 1) (pa_cons pe_int pa_nil))) (fun _ _ => rfl)) pa_nil)) (by rfl))
    (pss_cons (ps_set (i := 5) sc_law.nd rfl (by first | exact Or.inl rfl | exact Or.inr rfl) (C8.pe_c c_Lmade_rows hr.room (by decide) (by rfl) (pa_cons (pv 1) (pa_cons (pv 3) (pa_cons (pe_op op_add pe_int (C8.pe_c c_Ldraw hr.room (by decide) (by rfl) (pa_cons (pv 1) (pa_cons pe_int pa_nil)))) (pa_cons pe_int (pa_cons pe_int pa_nil)))))))
    (pss_cons (ps_for PassesOwn.never rfl (pi_range1 (by rfl) T.b_range (pa_cons (C8.pe_c c_Ldraw hr.room (by decide) (by rfl) (pa_cons (pv 1) (pa_cons pe_int pa_nil))) pa_nil)) (pg_name (i := 6) sc_law.nd rfl (by first | exact Or.inl rfl | exact Or.inr rfl))
      (pss_one (ps_set (i := 5) sc_law.nd rfl (by first | exact Or.inl rfl | exact Or.inr rfl) (pe_ifExp (pt_cmpR (op_neD hr.room.units) (pv 5) (pe_lst pa_nil) (nomark _)) (C8.pe_c c_Lbent hr.room (by decide) (by rfl) (pa_cons (pv 1) (pa_cons (pv 3) (pa_cons (pv 5) pa_nil)))) (pv 5)))))
    (pss_cons (ps_par (i := 7) (j := 8) (by rfl) sc_law.nd rfl rfl (by decide) rfl rfl (pa_cons (pe_callB (call_reprD hr.free hr.room.units1) (by rfl) zr (by decide +kernel) (pa_cons (pv 5) pa_nil)) (pa_cons (pe_ix ix_list (pe_lst (pa_cons (pv 3) (pa_cons (pv 3) (pa_cons pe_int (pa_cons pe_int (pa_cons (pe_un un_neg pe_int) (pa_cons (pe_op op_pow pe_int pe_int) pa_nil))))))) (C8.pe_c c_Ldraw hr.room (by decide) (by rfl) (pa_cons (pv 1) (pa_cons pe_int pa_nil))) (fun _ _ => rfl)) pa_nil)) (by rfl))
    (pss_one (ps_for PassesOwn.never rfl (pi_tup (pe_tup (pa_cons (pe_tup (pa_cons (pv 8) (pa_cons (pv 4) pa_nil))) (pa_cons (pe_tup (pa_cons (pv 3) (pa_cons (pv 4) pa_nil))) (pa_cons (pe_tup (pa_cons (pv 3) (pa_cons pe_int pa_nil))) pa_nil))))) (pg_tup rfl (pgs_cons (pg_name (i := 9) sc_law.nd rfl (by first | exact Or.inl rfl | exact Or.inr rfl)) (pgs_cons (pg_name (i := 10) sc_law.nd rfl (by first | exact Or.inl rfl | exact Or.inr rfl)) pgs_nil)))
      (pss_one (ps_if (PW.pt (pw_or (pt_cmpR (op_neD hr.room.units) (C8.pe_c c_Lraised hr.room (by decide) (by rfl) (pa_cons (pv 9) (pa_cons (pv 5) (pa_cons (pv 10) pa_nil)))) (C8.pe_c c_Ldue hr.room (by decide) (by rfl) (pa_cons (pv 9) (pa_cons (pv 5) (pa_cons (pv 10) pa_nil)))) (nomark _)) (pw_or1 (pt_cmpR op_ne (pe_callB (call_reprD hr.free hr.room.units1) (by rfl) zr (by decide +kernel) (pa_cons (pv 5) pa_nil)) (pv 7) (nomark _)))))
        (pss_one (ps_ret pe_bl))
        pss_nil)))))))))
  (pss_one (ps_ret pe_bl)))), ?_⟩
    refine ⟨_, rfl, a, ns, rfl, ha, hl, fun r H1 hr1 s1 rok => ?_⟩
    have hT1 := hT.ext s1
    refine ⟨_, rfl, a, _, rfl, Or.inl (sql s1 ha), ?_⟩
    have hlap : (12 + (if ((ns.map V.int).length : Int) < 20 then ((ns.map V.int).length : Int) else 20)) ≤ 32 ∧ 0 ≤ (12 + (if ((ns.map V.int).length : Int) < 20 then ((ns.map V.int).length : Int) else 20)) := by
      split <;> omega
    refine ⟨20, _, rfl, _, _, rfl, rfl, _, rfl, by omega, by omega, ?_⟩
    generalize (12 + (if ((ns.map V.int).length : Int) < 20 then ((ns.map V.int).length : Int) else 20)) = laps at hlap
    clear hT ha hr1 s1
    refine for_range (fun i σ H' => ∃ (y2 y3 y4 y5 y6 y7 y8 y9 y10 : Option V), σ = [some (.ref a), some (.ref r), y2, y3, y4, y5, y6, y7, y8, y9, y10] ∧ RngOk H' r (3000 * i) ∧ LamX.Tabs TT H')
      ⟨none, none, none, none, none, none, none, none, none, rfl, rok, hT1⟩ ?_ ?_
    · rintro i σ H2 hi ⟨y2, y3, y4, y5, y6, y7, y8, y9, y10, rfl, rok2, hT2⟩
      have hi32 : i < 32 := by omega
      -- dims, base
      refine ⟨_, rfl, r, 3, _, rfl, rok2, by omega, by decide, by decide, fun k1 H3 k10 k11 D3 => ⟨_, _, rfl, rfl, ?_⟩⟩
      have hT3 := tabs_dr hT2 rok2 D3
      refine ⟨1, rfl, 10, 30, rfl, rfl, ⟨by decide, by decide, by decide⟩, 0, _, rfl, rfl, (by show 6 ≤ sizeLine; decide), fun bl hbl => ?_⟩
      have ok4 := D3.ok.new (o := .lst (BASES.map V.int)) hbl
      have hT4 := hT3.ext (snew (o := .lst (BASES.map V.int)) hbl)
      have kb : (upd H3 bl (.lst (BASES.map V.int))) bl = some (.lst (BASES.map V.int)) := upd_same
      have nbr : bl ≠ r := fun z => by
        obtain ⟨o, ho⟩ := D3.ok.some
        rw [z, ho] at hbl
        cases hbl
      refine ⟨_, rfl, r, 6, _, rfl, ok4, by omega, by decide, by decide, fun k2 H5 k20 k21 D5 => ?_⟩
      have hT5 := tabs_dr hT4 ok4 D5
      have kb5 : H5 bl = some (.lst (BASES.map V.int)) := by rw [D5.ne _ nbr]; exact kb
      obtain ⟨bv, g1, g2, _⟩ := atI_in (xs := BASES.map V.int) k20 k21
      obtain ⟨bm, _, rfl⟩ := List.mem_map.mp g2
      refine ⟨bl, _, k2, _, rfl, rfl, Or.inl (Or.inl kb5), g1, _, _, rfl, ?_⟩
      -- rows
      refine ⟨_, rfl, _, rfl, _, rfl, r, 6, _, rfl, D5.ok, by omega, by decide, by decide, fun k3 H6 k30 k31 D6 => ⟨_, _, rfl, rfl, ?_⟩⟩
      have hT6 := tabs_dr hT5 D5.ok D6
      refine ⟨r, 1 + k1, 1 + k3, 12, 5, _, cutr H6 r, rfl, RS.cut D6.ok, by omega, by omega, by omega, by omega, by decide, by decide, by decide, by decide, by omega, fun rp0 B7 H7 ts0 s7 R7 RL7 hlen O7 ok7 sm7 _ few7 => ?_⟩
      have W7 : Rws K TT r (3000 * i + 1010) H7 rp0 ts0 6 12 := ⟨R7.ok.mono (by omega), tabs_cut hT6 D6.ok (same_tr s7 R7.s), RL7.grow (sc_cut R7.s R7.n), okT_bn O7 (by omega) ok7 sm7 (by omega)⟩
      obtain ⟨d, hd⟩ : ∃ d : Int, d = 1 + k1 := ⟨_, rfl⟩
      dsimp only
      rw [← hd]
      have d1 : 1 ≤ d := by omega
      have d3 : d ≤ 3 := by omega
      clear R7 RL7 s7 O7 ok7 sm7 few7 hlen hT2 hT3 hT4 hT5 hT6 D3 D5 D6 kb kb5 ok4 hbl g1 g2
      refine ⟨_, rfl, r, 3, _, rfl, W7.ok, by omega, by decide, by decide, fun k4 H8 k40 k41 D8 => ⟨k4, rfl, by omega, by omega, ?_⟩⟩
      have W8 := W7.dr D8
      clear W7 D8
      refine for_range (fun n σ H' => ∃ (p : Addr) (ts : List Tb) (y6 y7 y8 y9 y10 : Option V), σ = [some (.ref a), some (.ref r), some (.int (0 + (i : Int))), some (.int d), some (.int bm), some (.ref p), y6, y7, y8, y9, y10] ∧ Rws K TT r (3000 * i + 1011 + 30 * n) H' p ts (6 + 6 * n) (12 + 12 * n))
        ⟨rp0, ts0, y6, y7, y8, y9, y10, rfl, W8⟩ ?_ ?_
      · rintro n σ H9 hn ⟨p, ts, y6, y7, y8, y9, y10, rfl, W⟩
        have hn3 : n < 3 := by omega
        have shp := (shw_B W.bn (by omega) (by omega)).shaped (by decide)
        refine ⟨_, rfl, (by show 0 ≤ sizeLine; decide), fun nl hnl => ⟨_, .list [], (dpm (same_tr cut_sub (snew hnl)) _ _ W.ld.dp), .lst (Or.inl (Or.inl upd_same)) .nil, shp, by decide, ?_⟩⟩
        rw [eqv_nil]
        have W1 := W.gr (snew (o := .lst []) hnl)
        generalize upd H9 nl (.lst []) = H10 at W1 ⊢
        refine ⟨_, rfl, ite2 (fun h => ?_) (fun h => ?_)⟩
        · have hne : 1 ≤ ts.length := by
            cases ts with
            | nil => cases h
            | cons t l => exact Nat.succ_le_succ (Nat.zero_le _)
          refine ⟨_, rfl, _, rfl, _, rfl, r, p, d, _, _, _, cutr H10 r, ts, rfl, RS.cut W1.ok, W1.ld, d1, d3, hne, W1.bn, by omega, by omega, by omega, fun p' B' H' ts' sB RB LB BB => ?_⟩
          exact ⟨p', ts', _, _, _, _, _, rfl, RB.ok.mono (by omega), tabs_cut W1.tb W1.ok (same_tr sB RB.s), LB.grow (sc_cut RB.s RB.n), BB.mono (by omega) (by omega)⟩
        · exact ⟨_, rfl, p, ts, _, _, _, _, _, rfl, W1.mono (by omega) (by omega) (by omega)⟩
      · rintro σ H9 ⟨p, ts, y6, y7, y8, y9, y10, rfl, W⟩
        have W := W.mono (m' := 3000 * i + 1200) (j' := 18) (k' := 36) (by omega) (by omega) (by omega)
        have shw := shw_B W.bn (by decide) (by decide)
        obtain ⟨w1, w2, w3, w4⟩ := shw.asks (by decide) (by decide)
        have dp9 : Dp K H9 (.ref p) (.list (ts.map Tb.d)) := dpm cut_sub _ _ W.ld.dp
        refine ⟨_, rfl, .ref p, .list (ts.map Tb.d), rfl, dp9, w1, w2, w3, w4, ?_⟩
        refine ⟨_, rfl, _, rfl, 1, rfl, 10, 30, rfl, rfl, ⟨by decide, by decide, by decide⟩, (by show 6 ≤ sizeLine; decide), fun ol hol => ?_⟩
        have W2 := W.gr (snew (o := .lst ((ODDS d).map V.int)) hol)
        have ko : (upd H9 ol (.lst ((ODDS d).map V.int))) ol = some (.lst ((ODDS d).map V.int)) := upd_same
        have nor : ol ≠ r := fun z => by
          obtain ⟨o, ho⟩ := W.ok.some
          rw [z, ho] at hol
          cases hol
        refine ⟨_, rfl, r, 6, _, rfl, W2.ok, by omega, by decide, by decide, fun k5 H11 k50 k51 D11 => ?_⟩
        have W3 := W2.dr D11
        have ko11 : H11 ol = some (.lst ((ODDS d).map V.int)) := by rw [D11.ne _ nor]; exact ko
        obtain ⟨sv, g1, g2, _⟩ := atI_in (xs := (ODDS d).map V.int) k50 k51
        obtain ⟨sz, _, rfl⟩ := List.mem_map.mp g2
        refine ⟨ol, _, k5, _, rfl, rfl, Or.inl (Or.inl ko11), g1, _, _, rfl, ?_⟩
        clear W2 D11 ko ko11 g1 g2 hol nor dp9 W8
        have z2 : 2 ≤ sizeLine := by decide
        refine ⟨_, rfl, _, rfl, z2, fun t1 h1 => ⟨_, rfl, _, rfl, z2, fun t2 h2 => ⟨_, rfl, z2, fun t3 h3 => ⟨(by show 3 ≤ sizeLine; decide), fun tp htp => ?_⟩⟩⟩⟩
        have e1 := snew (o := .tup [.ref t1, .ref t2, .ref t3]) htp _ _ (snew (o := .tup [.int d, .int 97]) h3 _ _ (snew (o := .tup [.int d, .int bm]) h2 _ _ (upd_same (H := H11) (a := t1) (o := .tup [.int sz, .int bm]))))
        have e2 := snew (o := .tup [.ref t1, .ref t2, .ref t3]) htp _ _ (snew (o := .tup [.int d, .int 97]) h3 _ _ (upd_same (H := upd H11 t1 (.tup [.int sz, .int bm])) (a := t2) (o := .tup [.int d, .int bm])))
        have e3 := snew (o := .tup [.ref t1, .ref t2, .ref t3]) htp _ _ (upd_same (H := upd (upd H11 t1 (.tup [.int sz, .int bm])) t2 (.tup [.int d, .int bm])) (a := t3) (o := .tup [.int d, .int 97]))
        have e4 : (upd (upd (upd (upd H11 t1 (.tup [.int sz, .int bm])) t2 (.tup [.int d, .int bm])) t3 (.tup [.int d, .int 97])) tp (.tup [.ref t1, .ref t2, .ref t3])) tp = some (.tup [.ref t1, .ref t2, .ref t3]) := upd_same
        have W4 := W3.gr (same_tr (snew (o := .tup [.int sz, .int bm]) h1) (same_tr (snew (o := .tup [.int d, .int bm]) h2) (same_tr (snew (o := .tup [.int d, .int 97]) h3) (snew (o := .tup [.ref t1, .ref t2, .ref t3]) htp))))
        generalize upd (upd (upd (upd H11 t1 (.tup [.int sz, .int bm])) t2 (.tup [.int d, .int bm])) t3 (.tup [.int d, .int 97])) tp (.tup [.ref t1, .ref t2, .ref t3]) = H12 at e1 e2 e3 e4 W4 ⊢
        clear W3 h1 h2 h3 htp
        have dp12 : Dp K H12 (.ref p) (.list (ts.map Tb.d)) := dpm cut_sub _ _ W4.ld.dp
        obtain ⟨ra, rb, rc, hrr, rn⟩ := id W4.ok
        have pin : ∀ {H' : Hp} {b : Addr} {xs : List V}, LamX.ExtN H12 H' → H12 b = some (.tup xs) → H' b = some (.tup xs) := fun x e => x _ _ e fun ps z => by cases z
        refine ⟨tp, rfl, ⟨_, Or.inl (Or.inl e4)⟩, for_it (walk_tup (K := K) (a := tp) (xs := [.ref t1, .ref t2, .ref t3])) (fun n σ H' => ∃ y9 y10, σ = [some (.ref a), some (.ref r), some (.int (0 + (i : Int))), some (.int d), some (.int bm), some (.ref p), y6, some (.str (PyData.shown (.list (ts.map Tb.d)))), some (.int sz), y9, y10] ∧ LamX.ExtN H12 H' ∧ LamX.Tabs TT H')
          ⟨y9, y10, rfl, .of same_refl, W4.tb⟩ (fun n σ H' _ ⟨_, _, _, x, _⟩ => Or.inl (Or.inl (pin x e4))) ?_ ?_⟩
        · rintro n x σ H13 H14 hn ⟨y9, y10, rfl, X, TT13⟩ ⟨rfl, hx⟩
          obtain ⟨tq, s0, m0, rfl, etq⟩ : ∃ tq s0 m0, x = .ref tq ∧ H12 tq = some (.tup [.int s0, .int m0]) := by
            rcases n with _ | _ | _ | n
            · cases hx; exact ⟨_, _, _, rfl, e1⟩
            · cases hx; exact ⟨_, _, _, rfl, e2⟩
            · cases hx; exact ⟨_, _, _, rfl, e3⟩
            · cases hx
          refine ⟨tq, _, rfl, Or.inl (Or.inl (pin X etq)), rfl, _, _, rfl, _, _, rfl, rfl, ?_⟩
          have Z := W4.bn.sz (by decide) (by decide)
          have dp13 := dpd (SD.ext X) _ _ dp12
          have BN4 := W4.bn.mono (j' := 30) (k' := 60) (by decide) (by decide)
          refine ⟨_, rfl, _, rfl, _, rfl, s0, m0, .ref p, ts, rfl, dp13, Z, TT13, fun g H14 X14 T14 => ?_, fun b n' fa l H14 X14 T14 hl => ?_⟩
          · refine ⟨_, rfl, _, rfl, _, rfl, s0, m0, .ref p, ts, rfl, dpd (SD.ext X14) _ _ dp13, BN4, fun _ H15 s15 => ?_, fun b' n'' fa' => (fault_sure fa' g).elim⟩
            have X15 : LamX.ExtN H12 H15 := (X.trans X14).trans (.of s15)
            have T15 := T14.ext s15
            refine ⟨.str "fine", .str "fine", .str _, .str _, (by decide +kernel), (by decide +kernel), ?_⟩
            rw [show PyData.eqv (.str "fine") (.str "fine") = true by simp [PyData.eqv]]
            refine ⟨_, rfl, iteF ⟨_, rfl, .ref p, .list (ts.map Tb.d), rfl, dpd (SD.ext X15) _ _ dp12, w1, w2, w3, w4, _, rfl, rfl, _, rfl, ?_⟩⟩
            refine ite2 (fun h => absurd h (by simp)) (fun _ => ⟨_, _, rfl, X15, T15⟩)
          · refine ⟨_, rfl, _, rfl, _, rfl, s0, m0, .ref p, ts, rfl, dpd (SD.ext X14) _ _ dp13, BN4, fun g => (fault_sure fa g).elim, fun b' n'' fa' l' H15 s15 hl' => ?_⟩
            obtain ⟨rfl, rfl⟩ := fault_two fa fa'
            have X15 : LamX.ExtN H12 H15 := (X.trans X14).trans (.of s15)
            have T15 := T14.ext s15
            refine ⟨(wdD b' n''), (wdD b' n''), wd_at (s15 _ _ hl), wd_at hl', wd_shp, wd_shp, ?_⟩
            rw [wd_eq]
            refine ⟨_, rfl, iteF ⟨_, rfl, .ref p, .list (ts.map Tb.d), rfl, dpd (SD.ext X15) _ _ dp12, w1, w2, w3, w4, _, rfl, rfl, _, rfl, ?_⟩⟩
            refine ite2 (fun h => absurd h (by simp)) (fun _ => ⟨_, _, rfl, X15, T15⟩)
        · rintro σ H13 ⟨y9, y10, rfl, X, TT13⟩
          exact ⟨_, _, _, _, _, _, _, _, _, rfl, ⟨ra, rb, rc, X _ _ hrr (fun ps z => by cases z), rn.mono (by omega)⟩, TT13⟩
    · rintro σ H2 _
      exact q _
end
end Fr

namespace Fr
open PySem PySem.Spec PyProof.Rows L2
section
variable {P : Program} {w : World} {K : PySem.W.Frag} {mg mb : Str → Option Value} {a : Addr} {cs : List (Addr × Addr)} {s : Shared} {vs : List Value} {ns : List Int}
/-- what is tracked when the law is called: the tables, and the script unless it is written down -/
structure Begin (K : PySem.W.Frag) (cs : List (Addr × Addr)) (a : Addr) (so : Obj) (ns : List Int) (H : Hp) : Prop where
  tab : ∀ p ∈ cs, H p.2 = some (.tbl #[])
  scr : SqL K H a (ns.map V.int)
  only : ∀ b u, H b = some u → (u = .tbl #[] ∧ ∃ p ∈ cs, p.2 = b) ∨ (b = a ∧ u = .frz so (.lst (ns.map V.int)) ∧ K.lookup a = none)
theorem begin_ex (inK : K.In s.heap) (ha : s.heap.get? a = some { cls := .type "list", data := .seq vs.toArray }) (hi : IntsAre vs ns) (hl : ns.length ≤ sizeLine) (hT : ∀ p ∈ cs, s.heap.get? p.2 = some { cls := .none, data := .fields #[] }) :
    ∃ H, Begin K cs a { cls := .type "list", data := .seq vs.toArray } ns H := by
  have na : ¬ ∃ p ∈ cs, p.2 = a := by
    rintro ⟨p, hp, e⟩
    have z := hT p hp
    rw [e, ha] at z
    have z2 : Data.seq vs.toArray _ = Data.fields #[] := congrArg Obj.data (Option.some.inj z)
    cases z2
  haveI : DecidablePred fun b => ∃ p ∈ cs, p.2 = b := fun b => Classical.propDecidable _
  refine ⟨fun b => if ∃ p ∈ cs, p.2 = b then some (.tbl #[]) else if b = a then (match K.lookup a with | none => some (.frz { cls := .type "list", data := .seq vs.toArray } (.lst (ns.map V.int))) | some _ => none) else none, ⟨fun p hp => if_pos ⟨p, hp, rfl⟩, ?_, ?_⟩⟩
  · cases hk : K.lookup a with
    | none =>
      refine .inl (.inr ⟨{ cls := .type "list", data := .seq vs.toArray }, ?_⟩)
      exact (if_neg na).trans (if_pos rfl)
    | some o =>
      have e := inK a o hk
      rw [ha] at e
      cases e
      exact .inr ⟨_, vs.toArray, _, hk, rfl, rfl, rfl, by rw [List.size_toArray, hi.length]; exact hl, by simpa using vals_ints hi⟩
  · intro b u h
    by_cases h1 : ∃ p ∈ cs, p.2 = b
    · rw [if_pos h1] at h
      cases h
      exact .inl ⟨rfl, h1⟩
    · rw [if_neg h1] at h
      by_cases h2 : b = a
      · rw [if_pos h2] at h
        cases hk : K.lookup a with
        | none =>
          rw [hk] at h
          cases h
          exact .inr ⟨h2, rfl, rfl⟩
        | some o =>
          rw [hk] at h
          cases h
      · rw [if_neg h2] at h
        cases h
theorem law_callG {k : Nat} {fa : Addr} {fd : FuncData} {x : Str} {sp : Sp} (inK : K.In s.heap) (hns : s.heap.Ns mainGlobals mg) (hb : s.heap.Ns builtinsNs mb) (hbb : ∀ x : Str, x ≠ "__name__" → mb x = bootBuiltins x) (hlim : s.heap.NoLimit) (hg : s.gens = #[])
    (hT : ∀ p ∈ cs, s.heap.get? p.2 = some { cls := .none, data := .fields #[] }) (nT : ∀ p ∈ cs, K.lookup p.2 = none) (hC : ∀ p ∈ cs, PySem.W.CodeHd s.heap p.1 p.2)
    (hbm : ∃ (bm : Addr) (ob : Obj), mg "__builtins__" = some (.ref bm) ∧ bm ≠ builtinsNs ∧ s.heap.get? bm = some ob ∧ ob.cls = .type "module" ∧ ob.dict = some builtinsNs ∧ ob.data = .plain)
    (ha : s.heap.get? a = some { cls := .type "list", data := .seq vs.toArray }) (hi : IntsAre vs ns) (hl : ns.length ≤ sizeLine) (hr : Room k callerA)
    (F : ∀ base : Heap, K.In base → base.Ns mainGlobals mg → (∀ p ∈ cs, LamX.TabB base mg p.1 p.2) → FnG P w K mg base k fa fd [x] sp) (bind : ∀ (s : Shared) (u : Value), BindsTo s fd ⟨[u], []⟩ [(x, u)])
    (hsp : ∀ H : Hp, (∀ p ∈ cs, H p.2 = some (.tbl #[])) → SqL K H a (ns.map V.int) → sp [.ref a] H (fun v _ => v = .bl true) fun _ _ _ => False) :
    codeAny (model P w) callerA (.call (.ref fa) ⟨[.ref a], []⟩) (fun r s' => r = .ok (.ret (.bool true)) ∧ OldK s.heap s'.heap ∧ s'.os = s.os ∧ AllBare s'.gens) s := by
  obtain ⟨H, B⟩ := begin_ex inK ha hi hl hT
  have hok : HOk P w H s.heap := by
    intro b u h
    rcases B.only b u h with ⟨rfl, p, hp, rfl⟩ | ⟨rfl, rfl, _⟩
    · exact hT p hp
    · exact ⟨ha, by rw [List.length_map]; exact hl, vs, _, vals_ints hi, ha⟩
  -- what is no list and no empty table is not tracked
  have out : ∀ {b : Addr} {o : Obj}, s.heap.get? b = some o → (∀ ys n, o.data ≠ .seq ys n) → o.data ≠ .fields #[] → H b = none := by
    intro b o h1 h2 h3
    cases hb : H b with
    | none => rfl
    | some u =>
      rcases B.only b u hb with ⟨_, p, hp, rfl⟩ | ⟨rfl, _, _⟩
      · rw [hT p hp] at h1
        cases h1
        exact (h3 rfl).elim
      · rw [ha] at h1
        cases h1
        exact (h2 _ _ rfl).elim
  have low : ∀ {b : Addr} {o : Obj}, s.heap.get? b = some o → (∀ ys n, o.data ≠ .seq ys n) → o.data ≠ .fields #[] → (hidT s.heap H).get? b = some o := fun h1 h2 h3 => hidT_get h1 (out h1 h2 h3)
  have nsB : ∀ {b : Addr} {m : Str → Option Value}, s.heap.Ns b m → (hidT s.heap H).Ns b m := by
    rintro b m ⟨o, es, ep, h1, h2, h3⟩
    exact ⟨o, es, ep, low h1 (fun ys n z => by rw [h2] at z; cases z) (fun z => by rw [h2] at z; cases z), h2, h3⟩
  have inB : K.In (hidT s.heap H) := by
    intro b o h
    refine hidT_get (inK b o h) ?_
    cases hb : H b with
    | none => rfl
    | some u =>
      rcases B.only b u hb with ⟨_, p, hp, rfl⟩ | ⟨rfl, _, z⟩
      · rw [nT p hp] at h
        cases h
      · rw [z] at h
        cases h
  have md : L2.Mod K mg (hidT s.heap H) := by
    obtain ⟨mc, l1, l2⟩ := hlim
    exact ⟨inB, nsB hns, ⟨mb, nsB hb, hbb⟩, ⟨mc, nsB l1, l2⟩⟩
  have tb : ∀ p ∈ cs, LamX.TabB (hidT s.heap H) mg p.1 p.2 := by
    intro p hp
    have hp0 := hT p hp
    constructor
    · obtain ⟨o, us, f1, f2, f3, f4, f5, f6, f7, g, r1, r2, r3, r4, r5, r6, r7, r8, ne⟩ := hC p hp
      refine ⟨o, us, f1, f2, f3, f4, f5, f6, f7, low g (fun ys n z => by rw [r2] at z; cases z) (fun z => ?_), r1, r2, r3, r4, r5, r6, r7, r8, ne⟩
      rw [r2] at z
      cases z
      simp at r3
    · obtain ⟨bm, ob, b1, b2, b3, b4, b5, b6⟩ := hbm
      refine ⟨bm, ob, b1, b2, fun z => ?_, fun z => ?_, low b3 (fun ys n z => by rw [b6] at z; cases z) (fun z => by rw [b6] at z; cases z), b4, b5, b6⟩
      · obtain ⟨o, es, ep, e1, e2, _⟩ := hns
        rw [z, e1] at b3
        cases b3
        rw [e2] at b6
        cases b6
      · rw [z, hp0] at b3
        cases b3
        cases b6
    · intro z
      obtain ⟨o, es, ep, e1, e2, _⟩ := hns
      rw [z, hp0] at e1
      cases e1
      cases e2
  have env : Env0 P w K mg (hidT s.heap H) callerA [] s H :=
    { frames := rfl, mod := md, bs := fun _ _ z => of_hidT z, bsz := Nat.le_of_eq (hidT_size _ _), funs := trivial, frf := fun b z => absurd (show b ∈ ([] : List Addr) from z) (List.not_mem_nil), hok := hok, bare := .of_eq hg }
  refine codeAny_mono ((F _ inB (nsB hns) tb).go callerA [] s H ⟨[.ref a], []⟩ [.ref a] [.ref a] _ _ ⟨hr, rfl⟩ env (bind s (.ref a)) (.cons rfl .nil) (hsp H B.tab B.scr)) ?_
  intro rs s2 z
  match rs, z with
  | .error e, z => exact (show False from z).elim
  | .ok .next, z => exact z.elim
  | .ok .brk, z => exact z.elim
  | .ok .cont, z => exact z.elim
  | .ok (.ret u), z =>
    obtain ⟨v, H2, os, bare, un, hok2, ru, rfl⟩ := z
    obtain rfl : u = Value.bool true := ru
    have grow : ∀ p ∈ cs, ∃ more : Array Value, s2.heap.get? p.2 = some { cls := .none, data := .fields more } := fun p hp => by
      obtain ⟨more, e⟩ := un.tbls p.2 #[] (B.tab p hp)
      exact ⟨_, hok2 _ _ e⟩
    have keep : ∀ b o, (¬ ∃ p ∈ cs, p.2 = b) → s.heap.get? b = some o → s2.heap.get? b = some o := by
      intro b o nb h
      cases hb : H b with
      | none => exact un.keep b o h hb (fun z => absurd (show b ∈ ([] : List Addr) from z) List.not_mem_nil) List.not_mem_nil
      | some u =>
        rcases B.only b u hb with ⟨_, z⟩ | ⟨rfl, rfl, _⟩
        · exact (nb z).elim
        · have h1 := (hok _ _ hb).1
          rw [h] at h1
          cases h1
          exact (hok2 _ _ (un.frzs _ _ _ hb)).1
    refine ⟨rfl, ⟨fun b o h => ?_, fun b o h => ?_⟩, os, bare⟩
    · by_cases hb : ∃ p ∈ cs, p.2 = b
      · obtain ⟨p, hp, rfl⟩ := hb
        obtain ⟨more, e⟩ := grow p hp
        have h0 := hT p hp
        rw [h] at h0
        cases h0
        refine .inr (.inl ⟨((hC p hp).tab (hT p hp)).isCodeTable, rfl, #[], more, rfl, ?_⟩)
        rw [Array.empty_append]
        exact e
      · exact .inl (keep b o hb h)
    · by_cases hb : ∃ p ∈ cs, p.2 = b
      · obtain ⟨p, hp, rfl⟩ := hb
        obtain ⟨more, e⟩ := grow p hp
        exact ⟨_, e⟩
      · exact ⟨o, keep b o hb h⟩
/-- what is to be known of a law's def, at the heap behind its program's top -/
def LawAtG (l : PySem.W.OpenLaw) (w : World) (K : PySem.W.Frag) (k n : Nat) (x : Str) (mg : Str → Option Value) (fa : Addr) (h : Heap) : Prop :=
  ∃ (fd : FuncData) (cs : List (Addr × Addr)) (sp : Sp), ((∀ p ∈ cs, h.get? p.2 = some { cls := .none, data := .fields #[] }) ∧ (∀ p ∈ cs, K.lookup p.2 = none) ∧ ∀ p ∈ cs, PySem.W.CodeHd h p.1 p.2) ∧ (∀ (s : Shared) (u : Value), BindsTo s fd ⟨[u], []⟩ [(x, u)]) ∧
    (∀ (H : Hp) (a : Addr) (ns : List Int), ns.length ≤ n → (∀ p ∈ cs, H p.2 = some (.tbl #[])) → SqL K H a (ns.map V.int) → sp [.ref a] H (fun v _ => v = .bl true) fun _ _ _ => False) ∧
    ∀ base : Heap, K.In base → base.Ns mainGlobals mg → (∀ p ∈ cs, LamX.TabB base mg p.1 p.2) → FnG l.prog w K mg base k fa fd [x] sp
theorem walk_ofG {l : PySem.W.OpenLaw} {n k : Nat} {q : Program} {loose : List Str} {XP : (Str → Option Value) → Heap → Prop} {YP : World → Heap → Prop} {d : DefRec} {K : Params → PySem.W.Frag} {x : Str}
    (hn : l.most = some n) (hz : n ≤ sizeLine) (hdf : d.params.defaults = []) (hr : Room k callerA) (hY : ∀ (w : World) (h : Heap), YP w h → (K w.params).In h)
    (F : ∀ (w : World) (mg : Str → Option Value) (fa : Addr) (h : Heap), YP w h → (K w.params).In h → h.Ns mainGlobals mg → mg d.name = some (.ref fa) → LawAtG l w (K w.params) k n x mg fa h) : PySem.W.WalkO q loose XP YP l.row.toRowW d [] (fun f vs => PySem.call f vs) := by
  refine Att.attach_callB hn hdf ?_
  intro w _ s mg mb fa _ _ _ _ a vs ns G Y _ _ _ hmg hobj hints hlen _ hg
  have inK := hY w _ Y
  obtain ⟨fd, cs, sp, ⟨h1, h2, h3⟩, hb, hsp, hF⟩ := F w mg fa _ Y inK G.T.g hmg
  exact law_callG inK G.T.g G.T.b G.T.builtins G.T.nolimit hg h1 h2 h3 G.T.bmain hobj hints (Nat.le_trans hlen hz) hr hF hb fun H t => hsp H a ns hlen t
end
end Fr

namespace Fr
open PySem PySem.Spec PyProof.Rows L2
theorem kb1 {K : PySem.W.Frag} {fd : FuncData} {a b : Str} (h : ∀ (s : Shared) (u v : Value), BindsTo s fd ⟨[u], [(b, v)]⟩ [(a, u), (b, v)]) : L2.KBinds K fd [a, b] [b] kw1 kw1 :=
  ⟨fun s us ws _ hlen => (match us, ws, hlen with
    | [u], [v], _ => h s u v
    | [], _, h => absurd h (by simp [kw1])
    | [_], [], h => absurd h (by simp [kw1])
    | [_], _ :: _ :: _, h => absurd h (by simp [kw1])
    | _ :: _ :: _, _, h => absurd h (by simp [kw1])), fun hv hz => by
    cases hv with
    | nil => exact .nil
    | cons h1 h2 =>
      cases h2 with
      | nil =>
        cases hz with
        | nil => exact .nil
        | cons h3 h4 =>
          cases h4 with
          | nil => exact .cons h1 (.cons h3 .nil)
          | cons _ _ => exact .nil
      | cons _ _ => exact .nil⟩
def cOf (l : List Addr) (i : Nat) : Addr := l.getD i 0
def ExcRow (K : PySem.W.Frag) (C : Addr) : Prop := ∃ nm q N bs bm sn sub ab col dd k0 k1 k2 k3 k5, K.lookup C = some (excClassObj nm q C N bs bm true sn sub ab col dd k0 k1 k2 k3 k5 "ValueError.__new__") ∧ PySem.HandSPX.refsVE bm = true
theorem excRow_of {K : PySem.W.Frag} {C N : Addr} {nm q : Str} {bs bm sub : List Value} {sn : List Str} {ab : Bool} {col : Option Bool} {dd : Option Addr} {k0 k1 k2 k3 k5 : Option Value} (l : K.lookup C = some (excClassObj nm q C N bs bm true sn sub ab col dd k0 k1 k2 k3 k5 "ValueError.__new__")) (r : PySem.HandSPX.refsVE bm = true) : ExcRow K C := ⟨_, _, _, _, _, _, _, _, _, _, _, _, _, _, _, l, r⟩
theorem all_mk {l : PySem.W.OpenLaw} {w : World} {K : PySem.W.Frag} {h : Heap} {mg : Str → Option Value} {fa : Addr} (X : K.In h) (G : h.Ns mainGlobals mg) (hfa : mg "law" = some (.ref fa))
    {C c0 Pt T0 fI f1 f2 f3 f4 f5 f6 f7 f8 f9 f10 f11 f12 f13 f14 f15 f16 pPnames gPnames fMeq D0 D1 D2 D3 D4 D5 D6 D7 D8 D9 D10 D11 D12 fE : Addr} {od1 an1 od2 an2 od3 an3 od4 an4 od5 an5 od6 an6 od7 an7 od8 an8 od9 an9 od10 an10 od11 an11 od12 an12 od13 an13 od14 an14 od15 an15 od16 an16 odPnames anPnames odMeq anMeq odI anI odT odE anE : Option Addr} {sl1 sl2 sl3 sl4 sl5 sl6 sl7 sl8 sl9 sl10 sl11 sl12 sl13 sl14 sl15 sl16 slPnames slMeq slI slT slE : Array (Option Value)} {oc1 kV1 dc1 pm1 ct1 cd1 oc2 kV2 dc2 pm2 ct2 cd2 oc3 kV3 dc3 pm3 ct3 cd3 oc4 kV4 dc4 pm4 ct4 cd4 oc5 kV5 dc5 pm5 ct5 cd5 oc6 kV6 dc6 pm6 ct6 cd6 oc7 kV7 dc7 pm7 ct7 cd7 oc8 kV8 dc8 pm8 ct8 cd8 oc9 kV9 dc9 pm9 ct9 cd9 oc10 kV10 dc10 pm10 ct10 cd10 oc11 kV11 dc11 pm11 ct11 cd11 oc12 kV12 dc12 pm12 ct12 cd12 oc13 kV13 dc13 pm13 ct13 cd13 oc14 kV14 dc14 pm14 ct14 cd14 oc15 kV15 dc15 pm15 ct15 cd15 oc16 kV16 dc16 pm16 ct16 cd16 ocPnames kVPnames dcPnames pmPnames ctPnames cdPnames ocMeq kVMeq dcMeq pmMeq ctMeq cdMeq ocI kVI dcI pmI ctI ocT ocE kVE dcE pmE ctE cdE : Value} {restPnames : List Value} {tT t_MOST_DIMENSIONS t_MOST_TABLES t_MOST_READS t_MOST_LETTERS : Tok} {nT : Nat}
    (a1 : PySem.W.nsIn K mainGlobals "is_name" = some (some (.ref f1)))
    (l1 : K.lookup f1 = some ⟨oc1, od1, .func (PySem.W.fnOf "is_name" "is_name" (defArgs s_is_name) (defBody s_is_name) (defScope s_is_name) .none kV1 dc1 pm1 an1 cd1 ct1), sl1⟩)
    (e1 : PySem.W.codeIn K cd1 "is_name" = true)
    (k1 : PySem.W.keepIn K (.ref f1) = true)
    (a2 : PySem.W.nsIn K mainGlobals "is_read" = some (some (.ref f2)))
    (l2 : K.lookup f2 = some ⟨oc2, od2, .func (PySem.W.fnOf "is_read" "is_read" (defArgs s_is_read) (defBody s_is_read) (defScope s_is_read) .none kV2 dc2 pm2 an2 cd2 ct2), sl2⟩)
    (e2 : PySem.W.codeIn K cd2 "is_read" = true)
    (k2 : PySem.W.keepIn K (.ref f2) = true)
    (a3 : PySem.W.nsIn K mainGlobals "check_tables" = some (some (.ref f3)))
    (l3 : K.lookup f3 = some ⟨oc3, od3, .func (PySem.W.fnOf "check_tables" "check_tables" (defArgs s_check_tables) (defBody s_check_tables) (defScope s_check_tables) .none kV3 dc3 pm3 an3 cd3 ct3), sl3⟩)
    (e3 : PySem.W.codeIn K cd3 "check_tables" = true)
    (k3 : PySem.W.keepIn K (.ref f3) = true)
    (a4 : PySem.W.nsIn K mainGlobals "check_tables_that_are_read" = some (some (.ref f4)))
    (l4 : K.lookup f4 = some ⟨oc4, od4, .func (PySem.W.fnOf "check_tables_that_are_read" "check_tables_that_are_read" (defArgs s_check_tables_that_are_read) (defBody s_check_tables_that_are_read) (defScope s_check_tables_that_are_read) .none kV4 dc4 pm4 an4 cd4 ct4), sl4⟩)
    (e4 : PySem.W.codeIn K cd4 "check_tables_that_are_read" = true)
    (k4 : PySem.W.keepIn K (.ref f4) = true)
    (a5 : PySem.W.nsIn K mainGlobals "check_system" = some (some (.ref f5)))
    (l5 : K.lookup f5 = some ⟨oc5, od5, .func (PySem.W.fnOf "check_system" "check_system" (defArgs s_check_system) (defBody s_check_system) (defScope s_check_system) .none kV5 dc5 pm5 an5 cd5 ct5), sl5⟩)
    (e5 : PySem.W.codeIn K cd5 "check_system" = true)
    (k5 : PySem.W.keepIn K (.ref f5) = true)
    (a6 : PySem.W.nsIn K mainGlobals "_law_rng" = some (some (.ref f6)))
    (l6 : K.lookup f6 = some ⟨oc6, od6, .func (PySem.W.fnOf "_law_rng" "_law_rng" (defArgs s_Lrng) (defBody s_Lrng) (defScope s_Lrng) .none kV6 dc6 pm6 an6 cd6 ct6), sl6⟩)
    (e6 : PySem.W.codeIn K cd6 "_law_rng" = true)
    (k6 : PySem.W.keepIn K (.ref f6) = true)
    (a7 : PySem.W.nsIn K mainGlobals "_law_draw" = some (some (.ref f7)))
    (l7 : K.lookup f7 = some ⟨oc7, od7, .func (PySem.W.fnOf "_law_draw" "_law_draw" (defArgs s_Ldraw) (defBody s_Ldraw) (defScope s_Ldraw) .none kV7 dc7 pm7 an7 cd7 ct7), sl7⟩)
    (e7 : PySem.W.codeIn K cd7 "_law_draw" = true)
    (k7 : PySem.W.keepIn K (.ref f7) = true)
    (a8 : PySem.W.nsIn K mainGlobals "_law_mixed" = some (some (.ref f8)))
    (l8 : K.lookup f8 = some ⟨oc8, od8, .func (PySem.W.fnOf "_law_mixed" "_law_mixed" (defArgs s_Lmixed) (defBody s_Lmixed) (defScope s_Lmixed) .none kV8 dc8 pm8 an8 cd8 ct8), sl8⟩)
    (e8 : PySem.W.codeIn K cd8 "_law_mixed" = true)
    (k8 : PySem.W.keepIn K (.ref f8) = true)
    (a9 : PySem.W.nsIn K mainGlobals "_law_vector" = some (some (.ref f9)))
    (l9 : K.lookup f9 = some ⟨oc9, od9, .func (PySem.W.fnOf "_law_vector" "_law_vector" (defArgs s_Lvector) (defBody s_Lvector) (defScope s_Lvector) .none kV9 dc9 pm9 an9 cd9 ct9), sl9⟩)
    (e9 : PySem.W.codeIn K cd9 "_law_vector" = true)
    (k9 : PySem.W.keepIn K (.ref f9) = true)
    (a10 : PySem.W.nsIn K mainGlobals "_law_made_rows" = some (some (.ref f10)))
    (l10 : K.lookup f10 = some ⟨oc10, od10, .func (PySem.W.fnOf "_law_made_rows" "_law_made_rows" (defArgs s_Lmade_rows) (defBody s_Lmade_rows) (defScope s_Lmade_rows) .none kV10 dc10 pm10 an10 cd10 ct10), sl10⟩)
    (e10 : PySem.W.codeIn K cd10 "_law_made_rows" = true)
    (k10 : PySem.W.keepIn K (.ref f10) = true)
    (a11 : PySem.W.nsIn K mainGlobals "_law_caught" = some (some (.ref f11)))
    (l11 : K.lookup f11 = some ⟨oc11, od11, .func (PySem.W.fnOf "_law_caught" "_law_caught" (defArgs s_Lcaught) (defBody s_Lcaught) (defScope s_Lcaught) .none kV11 dc11 pm11 an11 cd11 ct11), sl11⟩)
    (e11 : PySem.W.codeIn K cd11 "_law_caught" = true)
    (k11 : PySem.W.keepIn K (.ref f11) = true)
    (a12 : PySem.W.nsIn K mainGlobals "_law_raised" = some (some (.ref f12)))
    (l12 : K.lookup f12 = some ⟨oc12, od12, .func (PySem.W.fnOf "_law_raised" "_law_raised" (defArgs s_Lraised) (defBody s_Lraised) (defScope s_Lraised) .none kV12 dc12 pm12 an12 cd12 ct12), sl12⟩)
    (e12 : PySem.W.codeIn K cd12 "_law_raised" = true)
    (k12 : PySem.W.keepIn K (.ref f12) = true)
    (a13 : PySem.W.nsIn K mainGlobals "_law_is_word" = some (some (.ref f13)))
    (l13 : K.lookup f13 = some ⟨oc13, od13, .func (PySem.W.fnOf "_law_is_word" "_law_is_word" (defArgs s_Lis_word) (defBody s_Lis_word) (defScope s_Lis_word) .none kV13 dc13 pm13 an13 cd13 ct13), sl13⟩)
    (e13 : PySem.W.codeIn K cd13 "_law_is_word" = true)
    (k13 : PySem.W.keepIn K (.ref f13) = true)
    (a14 : PySem.W.nsIn K mainGlobals "_law_due" = some (some (.ref f14)))
    (l14 : K.lookup f14 = some ⟨oc14, od14, .func (PySem.W.fnOf "_law_due" "_law_due" (defArgs s_Ldue) (defBody s_Ldue) (defScope s_Ldue) .none kV14 dc14 pm14 an14 cd14 ct14), sl14⟩)
    (e14 : PySem.W.codeIn K cd14 "_law_due" = true)
    (k14 : PySem.W.keepIn K (.ref f14) = true)
    (a15 : PySem.W.nsIn K mainGlobals "_law_bent" = some (some (.ref f15)))
    (l15 : K.lookup f15 = some ⟨oc15, od15, .func (PySem.W.fnOf "_law_bent" "_law_bent" (defArgs s_Lbent) (defBody s_Lbent) (defScope s_Lbent) .none kV15 dc15 pm15 an15 cd15 ct15), sl15⟩)
    (e15 : PySem.W.codeIn K cd15 "_law_bent" = true)
    (k15 : PySem.W.keepIn K (.ref f15) = true)
    (a16 : PySem.W.nsIn K mainGlobals "law" = some (some (.ref f16)))
    (l16 : K.lookup f16 = some ⟨oc16, od16, .func (PySem.W.fnOf "law" "law" (defArgs s_law) (defBody s_law) (defScope s_law) .none kV16 dc16 pm16 an16 cd16 ct16), sl16⟩)
    (e16 : PySem.W.codeIn K cd16 "law" = true)
    (k16 : PySem.W.keepIn K (.ref f16) = true)
    (aC : PySem.W.nsIn K mainGlobals "System" = some (some (.ref C)))
    (atPnames : PySem.W.findIn K (.ref C) "names" = some (some (.ref pPnames)))
    (gePnames : PySem.W.specialIn K (.ref pPnames) "__get__" = some (some (.builtin "property.__get__")))
    (taPnames : PySem.W.takesIn K (.ref pPnames) = some true)
    (rePnames : PySem.W.recIn K pPnames "property" = some (.ref gPnames :: restPnames))
    (lPnames : K.lookup gPnames = some ⟨ocPnames, odPnames, .func (PySem.W.fnOf "names" "System.names" (defArgs s_System_names) (defBody s_System_names) (defScope s_System_names) .none kVPnames dcPnames pmPnames anPnames cdPnames ctPnames), slPnames⟩)
    (ePnames : PySem.W.codeIn K cdPnames "System.names" = true)
    (kPnames : PySem.W.keepIn K (.ref gPnames) = true)
    (atMeq : PySem.W.findIn K (.ref C) "__eq__" = some (some (.ref fMeq)))
    (isMeq : PySem.W.isFn K (.ref fMeq) = true)
    (lMeq : K.lookup fMeq = some ⟨ocMeq, odMeq, .func (PySem.W.fnOf "__eq__" "System.__eq__" (defArgs s_System_eq) (defBody s_System_eq) (defScope s_System_eq) .none kVMeq dcMeq pmMeq anMeq cdMeq ctMeq), slMeq⟩)
    (eMeq : PySem.W.codeIn K cdMeq "System.__eq__" = true)
    (kMeq : PySem.W.keepIn K (.ref fMeq) = true)
    (atI : PySem.W.findIn K (.ref C) "__init__" = some (some (.ref fI)))
    (isI : PySem.W.isFn K (.ref fI) = true)
    (lI : K.lookup fI = some ⟨ocI, odI, .func (PySem.W.fnOf "__init__" "System.__init__" (defArgs s_System_init) (defBody s_System_init) (defScope s_System_init) (.ref T0) kVI dcI pmI anI (.ref c0) ctI), slI⟩)
    (eI : PySem.W.codeIn K (.ref c0) "System.__init__" = true)
    (kI : PySem.W.keepIn K (.ref fI) = true)
    (lT : K.lookup T0 = some ⟨ocT, odT, .seq [Value.int 1000003 tT].toArray nT, slT⟩)
    (pg : PySem.W.plainGet K C Str.empty = true)
    (hd : PySem.W.hasDictIn K C = true)
    (po : PySem.W.plainOver K C = true)
    (sa : PySem.W.findIn K (.ref C) "__setattr__" = some (some (.builtin "object.__setattr__")))
    (mk : PySem.W.makesIn K C = true)
    (kc : PySem.W.keepIn K (.ref C) = true)
    (haC : PySem.W.findIn K (.ref C) "__class__" = some (some (.builtin "object.__class__")))
    (hnC : PySem.W.specialIn K (.builtin "object.__class__") "__get__" = some (some (.builtin "getset_descriptor.__get__")))
    (htC : PySem.W.takesIn K (.builtin "object.__class__") = some true)
    (hmC : PySem.W.mroIn K C (.type "object") = some true)
    (n_dimensions : PySem.W.findIn K (.ref C) "_dimensions" = some none)
    (n_modulus : PySem.W.findIn K (.ref C) "_modulus" = some none)
    (n_tables : PySem.W.findIn K (.ref C) "_tables" = some none)
    (z_len : PySem.W.nsIn K mainGlobals "len" = some none)
    (z_all : PySem.W.nsIn K mainGlobals "all" = some none)
    (z_min : PySem.W.nsIn K mainGlobals "min" = some none)
    (z_abs : PySem.W.nsIn K mainGlobals "abs" = some none)
    (z_int : PySem.W.nsIn K mainGlobals "int" = some none)
    (z_list : PySem.W.nsIn K mainGlobals "list" = some none)
    (z_tuple : PySem.W.nsIn K mainGlobals "tuple" = some none)
    (z_range : PySem.W.nsIn K mainGlobals "range" = some none)
    (z_zip : PySem.W.nsIn K mainGlobals "zip" = some none)
    (z_enumerate : PySem.W.nsIn K mainGlobals "enumerate" = some none)
    (z_sorted : PySem.W.nsIn K mainGlobals "sorted" = some none)
    (z_repr : PySem.W.nsIn K mainGlobals "repr" = some none)
    (z_isinstance : PySem.W.nsIn K mainGlobals "isinstance" = some none)
    (v_MOST_DIMENSIONS : PySem.W.nsIn K mainGlobals "MOST_DIMENSIONS" = some (some (.int 3 t_MOST_DIMENSIONS)))
    (v_MOST_TABLES : PySem.W.nsIn K mainGlobals "MOST_TABLES" = some (some (.int 6 t_MOST_TABLES)))
    (v_MOST_READS : PySem.W.nsIn K mainGlobals "MOST_READS" = some (some (.int 12 t_MOST_READS)))
    (v_MOST_LETTERS : PySem.W.nsIn K mainGlobals "MOST_LETTERS" = some (some (.int 8 t_MOST_LETTERS)))
    (cg0 : PySem.W.nsIn K mainGlobals "InvalidSystem" = some (some (.ref D0)))
    (cg1 : PySem.W.nsIn K mainGlobals "InvalidName" = some (some (.ref D1)))
    (cg2 : PySem.W.nsIn K mainGlobals "InvalidAxes" = some (some (.ref D2)))
    (cg3 : PySem.W.nsIn K mainGlobals "UnknownTable" = some (some (.ref D3)))
    (cg4 : PySem.W.nsIn K mainGlobals "InvalidCell" = some (some (.ref D4)))
    (cg5 : PySem.W.nsIn K mainGlobals "InvalidRead" = some (some (.ref D5)))
    (cg6 : PySem.W.nsIn K mainGlobals "InvalidShifts" = some (some (.ref D6)))
    (cg7 : PySem.W.nsIn K mainGlobals "InvalidNumber" = some (some (.ref D7)))
    (cg8 : PySem.W.nsIn K mainGlobals "NotReady" = some (some (.ref D8)))
    (cg9 : PySem.W.nsIn K mainGlobals "NoFar" = some (some (.ref D9)))
    (cg10 : PySem.W.nsIn K mainGlobals "NothingToUndo" = some (some (.ref D10)))
    (cg11 : PySem.W.nsIn K mainGlobals "Unreadable" = some (some (.ref D11)))
    (cg12 : PySem.W.nsIn K mainGlobals "ReadError" = some (some (.ref D12)))
    (x0 : ExcRow K D0)
    (sa0 : PySem.W.findIn K (.ref D0) "__setattr__" = some (some (.builtin "object.__setattr__")))
    (ex0 : PySem.W.subIn K (.ref D0) (.type "BaseException") = some true)
    (ty0 : PySem.W.typeIn K (.ref D0) = some (.type "type"))
    (kp0 : PySem.W.keepIn K (.ref D0) = true)
    (ga0 : PySem.W.findIn K (.ref D0) "__getattribute__" = some (some (.builtin "BaseException.__getattribute__")))
    (gg0 : PySem.W.findIn K (.ref D0) "__getattr__" = some none)
    (hd0 : PySem.W.hasDictIn K D0 = true)
    (kc0 : PySem.W.findIn K (.ref D0) "__class__" = some (some (.builtin "object.__class__")))
    (km0 : PySem.W.mroIn K D0 (.type "object") = some true)
    (in0 : PySem.W.findIn K (.ref D0) "__init__" = some (some (.ref fE)))
    (no0 : PySem.W.findIn K (.ref D0) "value" = some none)
    (sub0 : ((List.range 13).all fun j => PySem.W.kitOne K (.ref D0) (.ref ((cOf [D0, D1, D2, D3, D4, D5, D6, D7, D8, D9, D10, D11, D12]) j)) == some (decide (j = 0) || decide (j = 12))) = true)
    (vv0 : PySem.W.kitOne K (.ref D0) (.type "ValueError") = some true)
    (hx0 : PySem.W.exmOne K (.ref D0) (.ref D12) = some true)
    (x7 : ExcRow K D7)
    (sa7 : PySem.W.findIn K (.ref D7) "__setattr__" = some (some (.builtin "object.__setattr__")))
    (ex7 : PySem.W.subIn K (.ref D7) (.type "BaseException") = some true)
    (ty7 : PySem.W.typeIn K (.ref D7) = some (.type "type"))
    (kp7 : PySem.W.keepIn K (.ref D7) = true)
    (ga7 : PySem.W.findIn K (.ref D7) "__getattribute__" = some (some (.builtin "BaseException.__getattribute__")))
    (gg7 : PySem.W.findIn K (.ref D7) "__getattr__" = some none)
    (hd7 : PySem.W.hasDictIn K D7 = true)
    (kc7 : PySem.W.findIn K (.ref D7) "__class__" = some (some (.builtin "object.__class__")))
    (km7 : PySem.W.mroIn K D7 (.type "object") = some true)
    (in7 : PySem.W.findIn K (.ref D7) "__init__" = some (some (.ref fE)))
    (no7 : PySem.W.findIn K (.ref D7) "value" = some none)
    (sub7 : ((List.range 13).all fun j => PySem.W.kitOne K (.ref D7) (.ref ((cOf [D0, D1, D2, D3, D4, D5, D6, D7, D8, D9, D10, D11, D12]) j)) == some (decide (j = 7) || decide (j = 12))) = true)
    (vv7 : PySem.W.kitOne K (.ref D7) (.type "ValueError") = some true)
    (hx7 : PySem.W.exmOne K (.ref D7) (.ref D12) = some true)
    (lE : K.lookup fE = some ⟨ocE, odE, .func (PySem.W.fnOf "__init__" "ReadError.__init__" (defArgs s_ReadError_init) (defBody s_ReadError_init) (defScope s_ReadError_init) .none kVE dcE pmE anE cdE ctE), slE⟩)
    (eE : PySem.W.codeIn K cdE "ReadError.__init__" = true)
    (kE : PySem.W.keepIn K (.ref fE) = true)
    (tyE : PySem.W.typeIn K (.ref fE) = some (.type "function"))
    (z_ValueError : PySem.W.nsIn K mainGlobals "ValueError" = some none)
    (hPt : h.get? Pt = some { cls := .none, data := .fields #[] })
    (nPt : K.lookup Pt = none)
    (hc0 : PySem.W.codeHdIn K c0 Pt = true)
    : LawAtG l w K 8 63 "_law_script" mg fa h := by
  have e := hfa.symm.trans (PySem.W.mg_of X G a16)
  cases e
  have T : Txt mg := ⟨PySem.W.mg_none_of X G z_len, PySem.W.mg_none_of X G z_all, PySem.W.mg_none_of X G z_min, PySem.W.mg_none_of X G z_abs, PySem.W.mg_none_of X G z_int, PySem.W.mg_none_of X G z_list, PySem.W.mg_none_of X G z_tuple, PySem.W.mg_none_of X G z_range, PySem.W.mg_none_of X G z_zip, PySem.W.mg_none_of X G z_enumerate, PySem.W.mg_none_of X G z_sorted, ⟨_, PySem.W.mg_of X G v_MOST_DIMENSIONS, ⟨_, rfl⟩⟩, ⟨_, PySem.W.mg_of X G v_MOST_TABLES, ⟨_, rfl⟩⟩, ⟨_, PySem.W.mg_of X G v_MOST_READS, ⟨_, rfl⟩⟩, ⟨_, PySem.W.mg_of X G v_MOST_LETTERS, ⟨_, rfl⟩⟩⟩
  have zr := PySem.W.mg_none_of X G z_repr
  have zi := PySem.W.mg_none_of X G z_isinstance
  have cl : Cls K C := ⟨pg, hd, po, sa⟩
  have TC : TxtC K mg C := ⟨cl, n_dimensions, n_modulus, n_tables, PySem.W.mg_of X G aC⟩
  have isC : C8.InsC K C := ⟨cl, haC, hnC, htC, hmC, if_pos (beq_self_eq_true _)⟩
  have F1 := fun_mk (st := s_is_name) l1 e1 k1
  have b1 := F1.binds (ps := ["text"]) fun _ _ _ _ _ _ us hl => match us, hl with | [_], _ => rfl
  have F2 := fun_mk (st := s_is_read) l2 e2 k2
  have b2 := F2.binds (ps := ["read", "dimensions"]) fun _ _ _ _ _ _ us hl => match us, hl with | [_, _], _ => rfl
  have F3 := fun_mk (st := s_check_tables) l3 e3 k3
  have b3 := F3.binds (ps := ["dimensions", "tables"]) fun _ _ _ _ _ _ us hl => match us, hl with | [_, _], _ => rfl
  have F4 := fun_mk (st := s_check_tables_that_are_read) l4 e4 k4
  have b4 := F4.binds (ps := ["tables"]) fun _ _ _ _ _ _ us hl => match us, hl with | [_], _ => rfl
  have F5 := fun_mk (st := s_check_system) l5 e5 k5
  have b5 := F5.binds (ps := ["dimensions", "tables", "modulus"]) fun _ _ _ _ _ _ us hl => match us, hl with | [_, _, _], _ => rfl
  have F6 := fun_mk (st := s_Lrng) l6 e6 k6
  have b6 := F6.binds (ps := ["_law_script"]) fun _ _ _ _ _ _ us hl => match us, hl with | [_], _ => rfl
  have F7 := fun_mk (st := s_Ldraw) l7 e7 k7
  have b7 := F7.binds (ps := ["_law_rng_here", "_law_limit"]) fun _ _ _ _ _ _ us hl => match us, hl with | [_, _], _ => rfl
  have F8 := fun_mk (st := s_Lmixed) l8 e8 k8
  have b8 := F8.binds (ps := ["_law_rng_here", "_law_some"]) fun _ _ _ _ _ _ us hl => match us, hl with | [_, _], _ => rfl
  have F9 := fun_mk (st := s_Lvector) l9 e9 k9
  have b9 := F9.binds (ps := ["_law_rng_here", "_law_dims", "_law_wide"]) fun _ _ _ _ _ _ us hl => match us, hl with | [_, _, _], _ => rfl
  have F10 := fun_mk (st := s_Lmade_rows) l10 e10 k10
  have b10 := F10.binds (ps := ["_law_rng_here", "_law_dims", "_law_many", "_law_most", "_law_wide"]) fun _ _ _ _ _ _ us hl => match us, hl with | [_, _, _, _, _], _ => rfl
  have F11 := fun_mk (st := s_Lcaught) l11 e11 k11
  have b11 := F11.binds (ps := ["_law_e"]) fun _ _ _ _ _ _ us hl => match us, hl with | [_], _ => rfl
  have F12 := fun_mk (st := s_Lraised) l12 e12 k12
  have b12 := F12.binds (ps := ["_law_dims", "_law_rows", "_law_base"]) fun _ _ _ _ _ _ us hl => match us, hl with | [_, _, _], _ => rfl
  have F13 := fun_mk (st := s_Lis_word) l13 e13 k13
  have b13 := F13.binds (ps := ["_law_word"]) fun _ _ _ _ _ _ us hl => match us, hl with | [_], _ => rfl
  have F14 := fun_mk (st := s_Ldue) l14 e14 k14
  have b14 := F14.binds (ps := ["_law_dims", "_law_rows", "_law_base"]) fun _ _ _ _ _ _ us hl => match us, hl with | [_, _, _], _ => rfl
  have F15 := fun_mk (st := s_Lbent) l15 e15 k15
  have b15 := F15.binds (ps := ["_law_rng_here", "_law_dims", "_law_rows"]) fun _ _ _ _ _ _ us hl => match us, hl with | [_, _, _], _ => rfl
  have F16 := fun_mk (st := s_law) l16 e16 k16
  have FPnames := fun_mk (st := s_System_names) lPnames ePnames kPnames
  have bPnames := FPnames.binds (ps := ["self"]) fun _ _ _ _ _ _ us hl => match us, hl with | [_], _ => rfl
  have FMeq := fun_mk (st := s_System_eq) lMeq eMeq kMeq
  have bMeq := FMeq.binds (ps := ["self", "other"]) fun _ _ _ _ _ _ us hl => match us, hl with | [_, _], _ => rfl
  have FI : FunC K "__init__" "System.__init__" s_System_init fI _ c0 := ⟨_, _, _, _, _, _, _, _, _, rfl, lI, eI⟩
  have FID : FunD K "__init__" "System.__init__" (defArgs s_System_init) (defBody s_System_init) (defScope s_System_init) [.int 1000003] [] fI _ := ⟨⟨_, _, _, _, _, _, _, _, _, _, rfl, lI, eI, .inr ⟨by simp, T0, _, _, _, rfl, lT, rfl, .cons ⟨_, rfl⟩ .nil⟩, .inl rfl⟩, kI⟩
  obtain ⟨ds, hds, bI⟩ := FID.binds1 (ps := ["self", "dimensions", "tables", "modulus"]) 3 0 (by simp) rfl fun _ _ _ _ _ _ _ us its h1 h2 => match us, its, h1, h2 with | [_, _, _], [_], _, _ => ⟨_, rfl, rfl⟩
  obtain ⟨ds3, hds3, bI3⟩ := FID.binds1 (ps := ["self", "dimensions", "tables", "modulus"]) 4 1 (by simp) rfl fun _ _ _ _ _ _ _ us its h1 h2 => match us, its, h1, h2 with | [_, _, _, _], [_], _, _ => ⟨_, rfl, rfl⟩
  obtain ⟨TT, hTT⟩ : ∃ TT : List (Addr × Str), TT = [(Pt, ("System.__init__.<locals>.<lambda>" : Str))] := ⟨_, rfl⟩
  have hmT : (Pt, ("System.__init__.<locals>.<lambda>" : Str)) ∈ TT := by rw [hTT]; exact List.mem_singleton.mpr rfl
  have huT : ∀ p ∈ TT, p.1 = Pt → p.2 = ("System.__init__.<locals>.<lambda>" : Str) := fun p hp _ => by rw [hTT] at hp; rw [List.mem_singleton.mp hp]
  refine ⟨PySem.W.fnOf "law" "law" (defArgs s_law) (defBody s_law) (defScope s_law) .none kV16 dc16 pm16 an16 cd16 ct16, [(c0, Pt)], spLaw2 K TT, ⟨?_, ?_, ?_⟩, fun s v => .of_eq rfl, ?_, fun base KB GB TB => ?_⟩
  · intro p hp
    rw [List.mem_singleton.mp hp]
    exact hPt
  · intro p hp
    rw [List.mem_singleton.mp hp]
    exact nPt
  · intro p hp
    rw [List.mem_singleton.mp hp]
    exact PySem.W.codeHd_of_K X hc0
  · intro H a ns hl hT hS
    refine ⟨a, ns, rfl, hS, hl, fun p hp => ?_, fun _ => rfl⟩
    rw [hTT] at hp
    rw [List.mem_singleton.mp hp]
    exact LamX.TabS.nil (hT _ (List.mem_singleton.mpr rfl))
  have TBc := TB _ (List.mem_singleton.mpr rfl)
  have TE : TxX mg (cOf [D0, D1, D2, D3, D4, D5, D6, D7, D8, D9, D10, D11, D12]) := ⟨PySem.W.mg_none_of X G z_ValueError, PySem.W.mg_of X G cg0, PySem.W.mg_of X G cg1, PySem.W.mg_of X G cg2, PySem.W.mg_of X G cg3, PySem.W.mg_of X G cg4, PySem.W.mg_of X G cg5, PySem.W.mg_of X G cg6, PySem.W.mg_of X G cg7, PySem.W.mg_of X G cg8, PySem.W.mg_of X G cg9, PySem.W.mg_of X G cg10, PySem.W.mg_of X G cg11, PySem.W.mg_of X G cg12⟩
  have FE := fun_mk (st := s_ReadError_init) lE eE kE
  have bE := FE.binds (ps := ["self", "value"]) fun _ _ _ _ _ _ us hl => match us, hl with | [_, _], _ => rfl
  have EC0 : ErrC K ((cOf [D0, D1, D2, D3, D4, D5, D6, D7, D8, D9, D10, D11, D12]) 0) := ⟨⟨x0, sa0, ex0, ty0, kp0⟩, ga0, gg0, hd0, kc0, hnC, htC, km0⟩
  have KE0 : KitE K (cOf [D0, D1, D2, D3, D4, D5, D6, D7, D8, D9, D10, D11, D12]) 0 := ⟨fun j hj => eq_of_beq (List.all_eq_true.mp sub0 j (List.mem_range.mpr hj)), vv0⟩
  have r_InvalidSystem : MkR l.prog w K mg base 1 "InvalidSystem" ((cOf [D0, D1, D2, D3, D4, D5, D6, D7, D8, D9, D10, D11, D12]) 0) := ⟨EC0, no0, _, _, _, in0, tyE, ok_errI FE, bE, PySem.W.mg_of X G cg0⟩
  have EC7 : ErrC K ((cOf [D0, D1, D2, D3, D4, D5, D6, D7, D8, D9, D10, D11, D12]) 7) := ⟨⟨x7, sa7, ex7, ty7, kp7⟩, ga7, gg7, hd7, kc7, hnC, htC, km7⟩
  have KE7 : KitE K (cOf [D0, D1, D2, D3, D4, D5, D6, D7, D8, D9, D10, D11, D12]) 7 := ⟨fun j hj => eq_of_beq (List.all_eq_true.mp sub7 j (List.mem_range.mpr hj)), vv7⟩
  have r_InvalidNumber : MkR l.prog w K mg base 1 "InvalidNumber" ((cOf [D0, D1, D2, D3, D4, D5, D6, D7, D8, D9, D10, D11, D12]) 7) := ⟨EC7, no7, _, _, _, in7, tyE, ok_errI FE, bE, PySem.W.mg_of X G cg7⟩
  have c_is_name : C8.Cal l.prog w K mg base 1 "is_name" spIsName [] := ⟨_, _, _, _, ok_is_name F1 T, PySem.W.mg_of X G a1, k1, b1, .nil⟩
  have c_is_read : C8.Cal l.prog w K mg base 2 "is_read" (spIsRead K) [] := ⟨_, _, _, _, ok_is_read F2 T c_is_name, PySem.W.mg_of X G a2, k2, b2, .nil⟩
  have p_names : Prp l.prog w K mg base 1 C "names" (spNames K C) := ⟨_, _, _, _, cl, ⟨atPnames, gePnames, taPnames, _, rePnames⟩, ok_names FPnames T TC, bPnames⟩
  have c_check_tables : C8.Cal l.prog w K mg base 3 "check_tables" (spCheckTables K) [] := ⟨_, _, _, _, ok_check_tables F3 T c_is_name c_is_read, PySem.W.mg_of X G a3, k3, b3, .nil⟩
  have c_check_tables_that_are_read : C8.Cal l.prog w K mg base 3 "check_tables_that_are_read" (spCheckRead K) [] := ⟨_, _, _, _, ok_check_read F4 T, PySem.W.mg_of X G a4, k4, b4, .nil⟩
  have c_check_system : C8.Cal l.prog w K mg base 4 "check_system" (spCheckSystem K) [] := ⟨_, _, _, _, ok_check_system F5 T c_check_tables c_check_tables_that_are_read, PySem.W.mg_of X G a5, k5, b5, .nil⟩
  have m_System3 : C8.Mak l.prog w K mg base 5 "System" C (spInit K C TT) [] := ⟨_, _, _, ds3, ⟨mk, atI, isI, kc⟩, ok_init FI T TC c_check_system TBc hmT huT, PySem.W.mg_of X G aC, bI3, hds3⟩
  have eq_System : EqM l.prog w K mg base 1 C (spSysEq K C) := ⟨_, _, _, cl, atMeq, isMeq, ok_eqS FMeq T TC zi isC, bMeq⟩
  have x_check_tables : CalN l.prog w K mg base 3 "check_tables" (spCTN K ((cOf [D0, D1, D2, D3, D4, D5, D6, D7, D8, D9, D10, D11, D12]) 0)) := ⟨_, _, _, ok_check_tablesN F3 T c_is_name c_is_read r_InvalidSystem, PySem.W.mg_of X G a3, k3, b3⟩
  have x_check_tables_that_are_read : CalN l.prog w K mg base 3 "check_tables_that_are_read" (spCRN K ((cOf [D0, D1, D2, D3, D4, D5, D6, D7, D8, D9, D10, D11, D12]) 0)) := ⟨_, _, _, ok_check_readN F4 T r_InvalidSystem, PySem.W.mg_of X G a4, k4, b4⟩
  have x_check_system : CalN l.prog w K mg base 4 "check_system" (spCSN K ((cOf [D0, D1, D2, D3, D4, D5, D6, D7, D8, D9, D10, D11, D12]) 7) ((cOf [D0, D1, D2, D3, D4, D5, D6, D7, D8, D9, D10, D11, D12]) 0)) := ⟨_, _, _, ok_check_systemN F5 T x_check_tables x_check_tables_that_are_read r_InvalidSystem r_InvalidNumber, PySem.W.mg_of X G a5, k5, b5⟩
  have n_System : MakN l.prog w K mg base 5 "System" C (spMakeN K C TT ((cOf [D0, D1, D2, D3, D4, D5, D6, D7, D8, D9, D10, D11, D12]) 7) ((cOf [D0, D1, D2, D3, D4, D5, D6, D7, D8, D9, D10, D11, D12]) 0)) := ⟨_, _, _, ⟨mk, atI, isI, kc⟩, fn_orN (ok_init FI T TC c_check_system TBc hmT huT) (ok_initX FI T TC x_check_system TBc hmT huT), PySem.W.mg_of X G aC, by cases hds3; exact bI3⟩
  have er : ∀ i, i = 0 ∨ i = 7 → ErrC K ((cOf [D0, D1, D2, D3, D4, D5, D6, D7, D8, D9, D10, D11, D12]) i) ∧ KitE K (cOf [D0, D1, D2, D3, D4, D5, D6, D7, D8, D9, D10, D11, D12]) i ∧ PySem.W.findIn K (.ref ((cOf [D0, D1, D2, D3, D4, D5, D6, D7, D8, D9, D10, D11, D12]) i)) "value" = some none ∧ PySem.W.exmOne K (.ref ((cOf [D0, D1, D2, D3, D4, D5, D6, D7, D8, D9, D10, D11, D12]) i)) (.ref ((cOf [D0, D1, D2, D3, D4, D5, D6, D7, D8, D9, D10, D11, D12]) 12)) = some true := fun i hi => by
    rcases hi with rfl | rfl
    · exact ⟨EC0, KE0, no0, hx0⟩
    · exact ⟨EC7, KE7, no7, hx7⟩
  have c_Lrng : C8.Cal l.prog w K mg base 1 "_law_rng" (spRng K) [] := ⟨_, _, _, _, ok_rng F6 T, PySem.W.mg_of X G a6, k6, b6, .nil⟩
  have c_Ldraw : C8.Cal l.prog w K mg base 1 "_law_draw" spDraw [] := ⟨_, _, _, _, ok_draw F7 T, PySem.W.mg_of X G a7, k7, b7, .nil⟩
  have c_Lmixed : C8.Cal l.prog w K mg base 2 "_law_mixed" (spMixed K) [] := ⟨_, _, _, _, ok_mixed F8 T c_Ldraw, PySem.W.mg_of X G a8, k8, b8, .nil⟩
  have c_Lvector : C8.Cal l.prog w K mg base 2 "_law_vector" (spVector K) [] := ⟨_, _, _, _, ok_vector F9 T c_Ldraw, PySem.W.mg_of X G a9, k9, b9, .nil⟩
  have c_Lmade_rows : C8.Cal l.prog w K mg base 3 "_law_made_rows" (spRows K) [] := ⟨_, _, _, _, ok_made_rows F10 T c_Ldraw c_Lmixed c_Lvector, PySem.W.mg_of X G a10, k10, b10, .nil⟩
  have y_Lcaught : CalE l.prog w K mg base 1 "_law_caught" (spCaught K (cOf [D0, D1, D2, D3, D4, D5, D6, D7, D8, D9, D10, D11, D12])) := ⟨_, _, _, ok_caught F11 T TE zi, PySem.W.mg_of X G a11, k11, b11⟩
  have c_Lraised : C8.Cal l.prog w K mg base 7 "_law_raised" (spRaised K TT) [] := ⟨_, _, _, _, ok_raised F12 T TC TE n_System y_Lcaught er, PySem.W.mg_of X G a12, k12, b12, .nil⟩
  have c_Lis_word : C8.Cal l.prog w K mg base 1 "_law_is_word" spIsWord [] := ⟨_, _, _, _, ok_is_word F13 T, PySem.W.mg_of X G a13, k13, b13, .nil⟩
  have c_Ldue : C8.Cal l.prog w K mg base 2 "_law_due" (spDue K) [] := ⟨_, _, _, _, ok_due F14 T c_Lis_word, PySem.W.mg_of X G a14, k14, b14, .nil⟩
  have c_Lbent : C8.Cal l.prog w K mg base 2 "_law_bent" (spBent K) [] := ⟨_, _, _, _, ok_bent F15 T c_Ldraw, PySem.W.mg_of X G a15, k15, b15, .nil⟩
  exact ok_law2 F16 T zr c_Lrng c_Ldraw c_Lmade_rows c_Lbent c_Lraised c_Ldue
end Fr

open PySem PySem.W PyProof.Rows
set_option maxRecDepth 100000 in
set_option maxHeartbeats 0 in
theorem PySem.Challenge.cw_farreads_k02_systems_refused_holds : PySem.Challenge.rw_farreads_k02_systems_refused.Holds := by
  w_on; o_law; k_head; (case hw => w_witness2)
  k_fill
  refine Fr.walk_ofG (n := 63) (k := 8) (x := "_law_script") (l := PySem.Challenge.rw_farreads_k02_systems_refused) rfl (by decide) rfl ⟨rfl, by decide, by decide⟩ (fun w h Y => PySem.W.km_in_of Y) ?F
  case F =>
    intro w mg fa h Y KX G hmg
    have hPt := PySem.W.km_tabs_of Y _ (List.mem_singleton.mpr rfl)
    refine' Fr.all_mk (Pt := _) KX G hmg ?a1 ?l1 ?e1 ?k1 ?a2 ?l2 ?e2 ?k2 ?a3 ?l3 ?e3 ?k3 ?a4 ?l4 ?e4 ?k4 ?a5 ?l5 ?e5 ?k5 ?a6 ?l6 ?e6 ?k6 ?a7 ?l7 ?e7 ?k7 ?a8 ?l8 ?e8 ?k8 ?a9 ?l9 ?e9 ?k9 ?a10 ?l10 ?e10 ?k10 ?a11 ?l11 ?e11 ?k11 ?a12 ?l12 ?e12 ?k12 ?a13 ?l13 ?e13 ?k13 ?a14 ?l14 ?e14 ?k14 ?a15 ?l15 ?e15 ?k15 ?a16 ?l16 ?e16 ?k16 ?aC ?atPnames ?gePnames ?taPnames ?rePnames ?lPnames ?ePnames ?kPnames ?atMeq ?isMeq ?lMeq ?eMeq ?kMeq ?atI ?isI ?lI ?eI ?kI ?lT ?pg ?hd ?po ?sa ?mk ?kc ?haC ?hnC ?htC ?hmC ?n_dimensions ?n_modulus ?n_tables ?z_len ?z_all ?z_min ?z_abs ?z_int ?z_list ?z_tuple ?z_range ?z_zip ?z_enumerate ?z_sorted ?z_repr ?z_isinstance ?v_MOST_DIMENSIONS ?v_MOST_TABLES ?v_MOST_READS ?v_MOST_LETTERS ?cg0 ?cg1 ?cg2 ?cg3 ?cg4 ?cg5 ?cg6 ?cg7 ?cg8 ?cg9 ?cg10 ?cg11 ?cg12 ?x0 ?sa0 ?ex0 ?ty0 ?kp0 ?ga0 ?gg0 ?hd0 ?kc0 ?km0 ?in0 ?no0 ?sub0 ?vv0 ?hx0 ?x7 ?sa7 ?ex7 ?ty7 ?kp7 ?ga7 ?gg7 ?hd7 ?kc7 ?km7 ?in7 ?no7 ?sub7 ?vv7 ?hx7 ?lE ?eE ?kE ?tyE ?z_ValueError hPt ?nPt ?hc0
    (case a1 => k_is)
    (case l1 => k_is)
    (case e1 => k_is)
    (case k1 => k_is)
    (case a2 => k_is)
    (case l2 => k_is)
    (case e2 => k_is)
    (case k2 => k_is)
    (case a3 => k_is)
    (case l3 => k_is)
    (case e3 => k_is)
    (case k3 => k_is)
    (case a4 => k_is)
    (case l4 => k_is)
    (case e4 => k_is)
    (case k4 => k_is)
    (case a5 => k_is)
    (case l5 => k_is)
    (case e5 => k_is)
    (case k5 => k_is)
    (case a6 => k_is)
    (case l6 => k_is)
    (case e6 => k_is)
    (case k6 => k_is)
    (case a7 => k_is)
    (case l7 => k_is)
    (case e7 => k_is)
    (case k7 => k_is)
    (case a8 => k_is)
    (case l8 => k_is)
    (case e8 => k_is)
    (case k8 => k_is)
    (case a9 => k_is)
    (case l9 => k_is)
    (case e9 => k_is)
    (case k9 => k_is)
    (case a10 => k_is)
    (case l10 => k_is)
    (case e10 => k_is)
    (case k10 => k_is)
    (case a11 => k_is)
    (case l11 => k_is)
    (case e11 => k_is)
    (case k11 => k_is)
    (case a12 => k_is)
    (case l12 => k_is)
    (case e12 => k_is)
    (case k12 => k_is)
    (case a13 => k_is)
    (case l13 => k_is)
    (case e13 => k_is)
    (case k13 => k_is)
    (case a14 => k_is)
    (case l14 => k_is)
    (case e14 => k_is)
    (case k14 => k_is)
    (case a15 => k_is)
    (case l15 => k_is)
    (case e15 => k_is)
    (case k15 => k_is)
    (case a16 => k_is)
    (case l16 => k_is)
    (case e16 => k_is)
    (case k16 => k_is)
    (case aC => k_is)
    (case atPnames => k_is)
    (case gePnames => k_is)
    (case taPnames => k_is)
    (case rePnames => k_is)
    (case lPnames => k_is)
    (case ePnames => k_is)
    (case kPnames => k_is)
    (case atMeq => k_is)
    (case isMeq => k_is)
    (case lMeq => k_is)
    (case eMeq => k_is)
    (case kMeq => k_is)
    (case atI => k_is)
    (case isI => k_is)
    (case lI => k_is)
    (case eI => k_is)
    (case kI => k_is)
    (case lT => k_is)
    (case pg => k_is)
    (case hd => k_is)
    (case po => k_is)
    (case sa => k_is)
    (case mk => k_is)
    (case kc => k_is)
    (case haC => k_is)
    (case hnC => k_is)
    (case htC => k_is)
    (case hmC => k_is)
    (case n_dimensions => k_is)
    (case n_modulus => k_is)
    (case n_tables => k_is)
    (case z_len => k_is)
    (case z_all => k_is)
    (case z_min => k_is)
    (case z_abs => k_is)
    (case z_int => k_is)
    (case z_list => k_is)
    (case z_tuple => k_is)
    (case z_range => k_is)
    (case z_zip => k_is)
    (case z_enumerate => k_is)
    (case z_sorted => k_is)
    (case z_repr => k_is)
    (case z_isinstance => k_is)
    (case v_MOST_DIMENSIONS => k_is)
    (case v_MOST_TABLES => k_is)
    (case v_MOST_READS => k_is)
    (case v_MOST_LETTERS => k_is)
    (case cg0 => k_is)
    (case cg1 => k_is)
    (case cg2 => k_is)
    (case cg3 => k_is)
    (case cg4 => k_is)
    (case cg5 => k_is)
    (case cg6 => k_is)
    (case cg7 => k_is)
    (case cg8 => k_is)
    (case cg9 => k_is)
    (case cg10 => k_is)
    (case cg11 => k_is)
    (case cg12 => k_is)
    (case x0 => (refine' Fr.excRow_of ?l ?r; (case l => k_is); (case r => decide +kernel)))
    (case sa0 => k_is)
    (case ex0 => k_is)
    (case ty0 => k_is)
    (case kp0 => k_is)
    (case ga0 => k_is)
    (case gg0 => k_is)
    (case hd0 => k_is)
    (case kc0 => k_is)
    (case km0 => k_is)
    (case in0 => k_is)
    (case no0 => k_is)
    (case sub0 => kernel_rfl)
    (case vv0 => kernel_rfl)
    (case hx0 => kernel_rfl)
    (case x7 => (refine' Fr.excRow_of ?l ?r; (case l => k_is); (case r => decide +kernel)))
    (case sa7 => k_is)
    (case ex7 => k_is)
    (case ty7 => k_is)
    (case kp7 => k_is)
    (case ga7 => k_is)
    (case gg7 => k_is)
    (case hd7 => k_is)
    (case kc7 => k_is)
    (case km7 => k_is)
    (case in7 => k_is)
    (case no7 => k_is)
    (case sub7 => kernel_rfl)
    (case vv7 => kernel_rfl)
    (case hx7 => kernel_rfl)
    (case lE => k_is)
    (case eE => k_is)
    (case kE => k_is)
    (case tyE => k_is)
    (case z_ValueError => k_is)
    (case nPt => kernel_rfl)
    (case hc0 => kernel_rfl)
