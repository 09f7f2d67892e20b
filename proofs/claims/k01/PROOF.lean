import PyProof.Rows.All
import Wide.All
import OpenK.AllK
import Wide.FinOn
import HandS.ForMost
import HandS.Wide
import HandS.ForExc
import HandS.Deep
import HandS.Evl
import HandS.Walk
import HandS.Codes
import HandS.Zip
import HandS.Property
import HandS.Defaults
import HandS.TupAny
import HandS.More
import HandS.Lambda
import HandS.SortKw
import KE.SortKeyHeap
import HandS.DictComp
import PySem.Challenge.RW_farreads_k01_systems_made
import HandS.DeepEq
import HandS.OwnEq
import KE.GoesEnum
import HandS.EndTab
import PyProof.ReprRoads
import HandS.RaiseMore
import PyProof.ReprLen
import HandS.Sort
import HandS.SortOrd
import HandS.SortRule
import KE.KDictZip
import KE.KIsAll
import HandS.IsInst
import HandS.MakeKw
import HandS.TupMul
import PyProof.ListStr
import KE.DataCmp
import HandS.Style
import HandS.MakeKwOnly
set_option Elab.async false
set_option linter.all false
set_option maxRecDepth 100000
set_option maxHeartbeats 8000000
namespace Fr
open PySem PySem.Spec PyProof.Rows L2
section
variable {K : PySem.W.Frag} {H H' : Hp}
theorem sqt (e : Same H H') {a : Addr} {xs : List V} (h : SqT K H a xs) : SqT K H' a xs := Evl.ex_t e h
theorem sql (e : Same H H') {a : Addr} {xs : List V} (h : SqL K H a xs) : SqL K H' a xs := Evl.ex_l e h
/-- lists, tuples, locked things -/
def dat : HO → Bool
  | .lst _ => true
  | .tup _ => true
  | .frz _ _ => true
  | _ => false
/-- what data is made of stays -/
def SD (H H' : Hp) : Prop := ∀ b o, H b = some o → dat o = true → H' b = some o
theorem SD.of (e : Same H H') : SD H H' := fun b o h _ => e b o h
theorem SD.tr {H'' : Hp} (a : SD H H') (b : SD H' H'') : SD H H'' := fun c o h d => b c o (a c o h d) d
theorem SD.upd {s : Addr} {u o : HO} (e : SD H H') (h : H' s = some u) (n : dat u = false) : SD H (upd H' s o) := fun b x q d => by
  have z := e b x q d
  have ne : b ≠ s := fun y => by
    rw [y, h] at z
    cases z
    rw [n] at d
    cases d
  rw [upd_ne ne]
  exact z
theorem sqtd (e : SD H H') {a : Addr} {xs : List V} (h : SqT K H a xs) : SqT K H' a xs := by
  rcases h with (h | ⟨o, h⟩) | h
  · exact .inl (.inl (e _ _ h rfl))
  · exact .inl (.inr ⟨o, e _ _ h rfl⟩)
  · exact .inr h
theorem sqld (e : SD H H') {a : Addr} {xs : List V} (h : SqL K H a xs) : SqL K H' a xs := by
  rcases h with (h | ⟨o, h⟩) | h
  · exact .inl (.inl (e _ _ h rfl))
  · exact .inl (.inr ⟨o, e _ _ h rfl⟩)
  · exact .inr h
mutual
theorem dpd (e : SD H H') : ∀ (d : PyData) (v : V), Dp K H v d → Dp K H' v d
  | .none, _, h => by cases h; exact .non
  | .bool b, _, h => by cases h; exact .bl b
  | .int i, _, h => by cases h; exact .int i
  | .str x, _, h => by cases h; exact .str x
  | .list ds, _, h => by
    cases h with
    | lst hs ha => exact .lst (sqld e hs) (dpsd e ds _ ha)
  | .tuple ds, _, h => by
    cases h with
    | tup hs ha => exact .tup (sqtd e hs) (dpsd e ds _ ha)
  | .dict _, _, h => by cases h
theorem dpsd (e : SD H H') : ∀ (ds : List PyData) (vs : List V), DpAll K H vs ds → DpAll K H' vs ds
  | [], _, h => by cases h; exact .nil
  | d :: ds, _, h => by
    cases h with
    | cons h1 h2 => exact .cons (dpd e d _ h1) (dpsd e ds _ h2)
end
theorem dpm (e : Same H H') (d : PyData) (v : V) (h : Dp K H v d) : Dp K H' v d := dpd (.of e) d v h
theorem dpsm (e : Same H H') (ds : List PyData) (vs : List V) (h : DpAll K H vs ds) : DpAll K H' vs ds := dpsd (.of e) ds vs h
theorem dps_len : ∀ {ds : List PyData} {vs : List V}, DpAll K H vs ds → vs.length = ds.length
  | [], _, h => by cases h; rfl
  | d :: ds, _, h => by
    cases h with
    | cons h1 h2 => exact congrArg Nat.succ (dps_len h2)
theorem dps_get : ∀ {ds : List PyData} {vs : List V} {i : Nat} {v : V}, DpAll K H vs ds → vs[i]? = some v → ∃ d, ds[i]? = some d ∧ Dp K H v d
  | [], _, _, _, h, e => by cases h; cases e
  | d :: ds, _, 0, v, h, e => by
    cases h with
    | cons h1 h2 => cases e; exact ⟨d, rfl, h1⟩
  | d :: ds, _, i + 1, v, h, e => by
    cases h with
    | cons h1 h2 => exact dps_get (i := i) h2 (by simpa using e)
theorem dps_get' : ∀ {ds : List PyData} {vs : List V} {i : Nat} {d : PyData}, DpAll K H vs ds → ds[i]? = some d → ∃ v, vs[i]? = some v ∧ Dp K H v d
  | [], _, _, _, h, e => by cases e
  | d :: ds, _, 0, v, h, e => by
    cases h with
    | cons h1 h2 => cases e; exact ⟨_, rfl, h1⟩
  | d :: ds, _, i + 1, v, h, e => by
    cases h with
    | cons h1 h2 => simpa using dps_get' (i := i) h2 (by simpa using e)
theorem dps_app : ∀ {ds es : List PyData} {vs us : List V}, DpAll K H vs ds → DpAll K H us es → DpAll K H (vs ++ us) (ds ++ es)
  | [], _, _, _, h, k => by cases h; exact k
  | d :: ds, _, _, _, h, k => by
    cases h with
    | cons h1 h2 => exact .cons h1 (dps_app h2 k)
theorem dps_one {v : V} {d : PyData} (h : Dp K H v d) : DpAll K H [v] [d] := .cons h .nil
theorem dps_snoc {ds : List PyData} {vs : List V} {v : V} {d : PyData} (h : DpAll K H vs ds) (k : Dp K H v d) : DpAll K H (vs ++ [v]) (ds ++ [d]) := dps_app h (dps_one k)
/-- a new object leaves what stands -/
theorem snew {p : Addr} {o : HO} (h : H p = none) : Same H (upd H p o) := fun b x e => by
  rw [upd_ne (ne_of_none e h)]
  exact e
theorem smut {p : Addr} {o : HO} (e : Same H H') (h : H p = none) : Same H (upd H' p o) := fun b x q => by
  rw [upd_ne (ne_of_none q h)]
  exact e b x q
theorem dint {v : V} {i : Int} (h : Dp K H v (.int i)) : v = .int i := by cases h; rfl
theorem dstr {v : V} {x : Str} (h : Dp K H v (.str x)) : v = .str x := by cases h; rfl
theorem dtup {v : V} {ds : List PyData} (h : Dp K H v (.tuple ds)) : ∃ a xs, v = .ref a ∧ SqT K H a xs ∧ DpAll K H xs ds := by
  cases h with
  | tup hs ha => exact ⟨_, _, rfl, hs, ha⟩
theorem dlst {v : V} {ds : List PyData} (h : Dp K H v (.list ds)) : ∃ a xs, v = .ref a ∧ SqL K H a xs ∧ DpAll K H xs ds := by
  cases h with
  | lst hs ha => exact ⟨_, _, rfl, hs, ha⟩
theorem dps_ints : ∀ {ns : List Int} {vs : List V}, DpAll K H vs (ns.map PyData.int) → vs = ns.map V.int
  | [], _, h => by cases h; rfl
  | n :: ns, _, h => by
    cases h with
    | cons h1 h2 => cases h1; rw [dps_ints h2]; rfl
theorem dps3 {a b c : PyData} {vs : List V} (h : DpAll K H vs [a, b, c]) : ∃ x y z, vs = [x, y, z] ∧ Dp K H x a ∧ Dp K H y b ∧ Dp K H z c := by
  cases h with
  | cons h1 h =>
    cases h with
    | cons h2 h =>
      cases h with
      | cons h3 h =>
        cases h
        exact ⟨_, _, _, rfl, h1, h2, h3⟩
theorem dps2 {a b : PyData} {vs : List V} (h : DpAll K H vs [a, b]) : ∃ x y, vs = [x, y] ∧ Dp K H x a ∧ Dp K H y b := by
  cases h with
  | cons h1 h =>
    cases h with
    | cons h2 h =>
      cases h
      exact ⟨_, _, rfl, h1, h2⟩
theorem ints_dps : ∀ (ns : List Int), DpAll K H (ns.map V.int) (ns.map PyData.int)
  | [] => .nil
  | n :: ns => .cons (.int n) (ints_dps ns)
end
/-- ** with a base of any size within the line -/
def CPowW (i j : Int) : Prop := 0 ≤ j ∧ j ≤ 3 ∧ i.natAbs < 2 ^ 1000000
section
variable {X : Cx}
theorem op_powW : OpR X (binaryOp .Pow) (rI CPowW fun i j => .int (i ^ j.toNat)) := opI fun i j _ _ _ _ _ hc q => by
  obtain ⟨h0, h3, hb⟩ := hc
  refine pow_int h0 ?_ q
  have b : Builtin.Int.intBits i ≤ i.natAbs.log2 + 1 := by
    unfold Builtin.Int.intBits
    split <;> omega
  have l : i.natAbs.log2 < 1000000 := PySem.Flt.log2_lt_of (by decide) hb
  have c : (Builtin.Int.intBits i : Int) ≤ 1000000 := by omega
  have c0 : (0 : Int) ≤ (Builtin.Int.intBits i : Int) := Int.natCast_nonneg _
  calc (Builtin.Int.intBits i : Int) * j ≤ 1000000 * 3 := Int.mul_le_mul c h3 h0 (by decide)
    _ ≤ 2 ^ 27 := by decide
end
end Fr

namespace Fr
open PySem PySem.Spec PyProof.Rows L2
theorem same_refl {H : Hp} : Same H H := fun _ _ h => h
theorem same_tr {A B C : Hp} (a : Same A B) (b : Same B C) : Same A C := fun x o h => b x o (a x o h)
theorem yat_same {xs : List V} {i : Nat} {H : Hp} {x : V} {H' : Hp} (y : YAt xs i H x H') : Same H H' := by
  obtain ⟨rfl, _⟩ := y
  exact same_refl
theorem ypair_same {xs ys : Nat → Option V} {i : Nat} {H : Hp} {x : V} {H' : Hp} (y : YPair xs ys i H x H') : Same H H' := by
  obtain ⟨T, _, _, _, n, rfl, _⟩ := y
  exact snew n
theorem free_of {H H' : Hp} {p : Addr} (e : Same H H') (h : H' p = none) : H p = none := Same.free e h
theorem get_range {n i : Nat} (h : i < n) : (List.range n)[i]? = some i := by simp [h]
/-- a comprehension whose elements are told by the turn -/
theorem lc_flat {J : It} {n : Nat} {G : Hp → Prop} {Y : Nat → Hp → V → Hp → Prop} (w : Walk J n G Y) {g : TG} {te : TE} {vs : List Nat} {σ : L2.St} {H1 : Hp} {D : Addr} {Qd : Hp → Prop} (f : Nat → V) (hn : n ≤ 1000000) (hD : H1 D = none) (hG : ∀ H, Same H1 H → G H)
    (hY : ∀ i H x H', Y i H x H' → Same H H')
    (hs : ∀ i x H H', i < n → Same H1 H → Y i H x H' → ∀ R : V → Hp → Prop, (∀ H4, Same H' H4 → R (f i) H4) → g x (wipe σ vs) H' fun σ2 H2 => wipe σ2 vs = wipe σ vs ∧ te σ2 H2 R)
    (hd : ∀ H, Same H1 H → H D = some (.lst ((List.range n).map f)) → Qd H) :
    ∃ W : Nat → Nat → Hp → Prop, (∃ m, W 0 m (upd H1 D (.lst []))) ∧ ∀ i m H, W i m H →
      (J.stop i H ∧ Qd H) ∨ (J.go i H ∧ ∃ Nx : Hp → Prop, (∀ H', Nx H' → ∃ m', m' < m ∧ W (i + 1) m' H') ∧ ∀ x H', J.yld i H x H' → g x (wipe σ vs) H' fun σ2 H2 => wipe σ2 vs = wipe σ vs ∧ tYes σ2 H2 fun b H3 =>
        if b = true then te σ2 H3 fun y H4 => ∃ acc, H4 D = some (.lst acc) ∧ acc.length < sizeLine ∧ Nx (upd H4 D (.lst (acc ++ [y]))) else Nx H3) := by
  refine lc_it w (fun i H => Same H1 H ∧ H D = some (.lst ((List.range i).map f))) ⟨snew hD, upd_same⟩ (fun i H _ p => hG H p.1) (fun i x H H' hi p y => ?_) fun H p => hd H p.1 p.2
  have sm := hY i H x H' y
  refine hs i x H H' hi p.1 y _ fun H4 s4 => ⟨_, s4 _ _ (sm _ _ p.2), ?_, ?_, ?_⟩
  · rw [List.length_map, List.length_range]
    exact Nat.lt_of_lt_of_le (by omega : i < 1000001) (by rw [sizeLine_eq]; decide)
  · exact smut (same_tr p.1 (same_tr sm s4)) hD
  · rw [upd_same, List.range_succ, List.map_append]
    rfl
/-- a property that may be read by its name -/
structure Prp (P : Program) (w : World) (K : PySem.W.Frag) (mg : Str → Option Value) (base : Heap) (k : Nat) (C : Addr) (f : Str) (sp : Sp) : Prop where
  ex : ∃ (p g : Addr) (fd : FuncData) (ps : List Str), Cls K C ∧ PropOf K C f p g ∧ FnOk P w K mg base CX0 k g fd ps sp ∧ Binds K fd ps []
section
variable {X : Cx}
theorem pe_pr {k j : Nat} {C : Addr} {f : Str} {sp : Sp} {e : Expr} {pos : Pos} {ta : TE} (he : PE X e ta) (c : Prp X.prog X.w X.K X.mg X.base k C f sp) (hr : Room j X.A) (hk : k + 1 ≤ j) (hab : attributeBase e f X.env (eval e X.env) = eval e X.env) :
    PE X (.Attribute e f pos) (tProp C sp [] E0 ta) := by
  obtain ⟨p, g, fd, ps, hc, hp, F, hb⟩ := c.ex
  exact pe_prop he hc hp F (hr.mono hk) hb .nil pass0 hab
theorem _root_.L2.Room.units1 {k : Nat} {A : Around} (r : Room k A) : A.units + 65 < cLine := by
  have := r.un
  omega
end
def rTupS (K : PySem.W.Frag) : List V → Hp → VK → Prop := fun xs H Q => ∃ p ys, xs = [.ref p] ∧ ((SqL K H p ys ∧ ∀ l, H l = none → Q (.ref l) (upd H l (.tup ys))) ∨ (SqT K H p ys ∧ Q (.ref p) H))
end Fr

namespace Fr
open PySem PySem.Spec PyProof.Rows L2
theorem vals_each1 {α : Type} : ∀ {bs : List (V × α)} {us : List Value}, Vals (bs.map Prod.fst) us → PySem.W.EachIs (fun (v : Value) (x : V × α) => RelV x.1 v) us bs
  | [], _, h => by cases h; exact .nil
  | b :: bs, _, h => by
    cases h with
    | cons h t => exact .cons h (vals_each1 t)
theorem each_vals1 {α : Type} : ∀ {bs : List (V × α)} {us : List Value}, PySem.W.EachIs (fun (v : Value) (x : V × α) => RelV x.1 v) us bs → Vals (bs.map Prod.fst) us
  | [], _, h => by cases h; exact .nil
  | b :: bs, _, h => by
    cases h with
    | cons h t => exact .cons h (each_vals1 t)
/-- one parameter, nothing captured -/
structure LamP (a : Str) (scope : Scope) : Prop where
  kind : scope.kind = .function
  co : scope.isCoroutine = false
  gen : scope.isGenerator = false
  loc : scope.names.lookup a = some .local
  noc : ∀ y ∈ scope.names, y.2 ≠ .cell
  nof : ∀ y ∈ scope.names, y.2 ≠ .free
section
variable {prog : Program} {w : World} {A : Around} {E : Value → Shared → Prop} {s : Shared}
theorem lam_key0 {a q : Str} {f c' t : Addr} {pm ctv : Value} {params : Arguments} {scope : Scope} {cl : List (Str × Addr)} {p1 p2 p3 : Pos} {kk : Nat} {x : Str} {u : Tok} {items : List Value} (L : LamP a scope) (ha : (a == ("__debug__" : Str)) = false)
    (ho : s.heap.get? f = some (PySem.W.kla_obj "<lambda>" q params (.Subscript (.Name a p1) (.Constant (.int 0) kk p2) p3) scope cl pm c' ctv)) (hcr : s.heap.CodeRec (.ref c') q) (hroom : A.depth < recursionLimit) (hlim : s.heap.NoLimit)
    (hbind : ∀ v, bindArgs (PySem.W.kla_fn "<lambda>" q params (.Subscript (.Name a p1) (.Constant (.int 0) kk p2) p3) scope cl pm (.ref c') ctv) ⟨[v], []⟩ = pure [(a, v)]) (ht : IsTup s.heap t (Value.str x u :: items).toArray) :
    wpAny (model prog w) A (call (.ref f) [.ref t]) (PySem.W.KeyPure (.str x) s) E s := by
  refine wpAny_call (PySem.W.kla_callFunE hroom ho rfl L.co L.gen rfl hcr ?_)
  rw [hbind]
  refine wpAny_pure (wpAny_newFunctionEnv (fun y hy => L.noc y hy) (fun y hy => ?_) (fun h₁ hns hsb => ⟨hlim.fresh _ hsb, ?_⟩) L.kind)
  · have e : y = (a, Value.ref t) := by simpa using hy
    rw [e]
    exact L.loc
  · have kp : ∀ b o, s.heap.get? b = some o → h₁.get? b = some o := fun b o e => hsb.extBut b o (Nat.ne_of_lt (Heap.lt_size e)) (Heap.get?_push_of_some _ e)
    refine PySem.W.kla_codeExpr (Subscript_ (wpAny_Name (wpAny_loadName_local (v := .ref t) L.kind L.loc hns ?_ ?_) ha))
    · show List.lookup a ([(a, Value.ref t)] : List (Str × Value)) = _
      simp [List.lookup]
    · refine wpAny_Constant_int ?_
      refine item_tupleL (j := 0) (x := .str x u) (l := Value.str x u :: items) ?_ (by decide) (by decide) ?_ rfl ?_
      · obtain ⟨o, h1, h2, n, h3⟩ := ht
        exact ⟨o, kp _ _ h1, h2, n, h3⟩
      · show (if (decide ((0 : Int) ≤ (if (0 : Int) < 0 then 0 + ((Value.str x u :: items).length : Int) else 0)) && decide ((if (0 : Int) < 0 then 0 + ((Value.str x u :: items).length : Int) else 0) < ((Value.str x u :: items).length : Int))) = true then some (if (0 : Int) < 0 then 0 + ((Value.str x u :: items).length : Int) else 0).toNat else none) = some 0
        rw [if_neg (by decide : ¬ (0 : Int) < 0)]
        have h : (0 : Int) < ((Value.str x u :: items).length : Int) := by
          rw [List.length_cons]
          omega
        rw [decide_eq_true (Int.le_refl 0), decide_eq_true h]
        rfl
      · exact ⟨h₁, _, rfl, kp, PySem.Reads.str x u⟩
end
/-- by the first text, from the least on -/
def leK {β : Type} (k : β → Str) : β → β → Bool := fun a b => decide ((k a).cps.toList ≤ (k b).cps.toList)
def oneV (R : VK) : List V → Hp → Prop
  | [v], H => R v H
  | _, _ => False
theorem oneV_of {R : VK} {vs : List V} {H : Hp} (h : oneV R vs H) : ∃ v, vs = [v] ∧ R v H := by
  match vs, h with
  | [v], h => exact ⟨v, rfl, h⟩
def tSortKey {α : Type} (kf : α → Str) (K : PySem.W.Frag) (T : List (Addr × Str)) (te : TE) : TE := fun σ H Q => te σ H fun v H1 => ∃ (a : Addr) (bs : List (V × α)), v = .ref a ∧ SqL K H1 a (bs.map Prod.fst) ∧ LamX.Tabs T H1 ∧
  (∀ y ∈ bs, ∃ t zs, y.1 = .ref t ∧ SqT K H1 t (.str (kf y.2) :: zs)) ∧ ∀ H2, LamX.ExtN H1 H2 → LamX.Tabs T H2 → ∀ p, H2 p = none → Q (.ref p) (upd H2 p (.lst ((bs.mergeSort (leK fun y => kf y.2)).map Prod.fst)))
theorem same_of_ext {B H1 H2 : Hp} (e : Same B H1) (n : ∀ b ps, B b ≠ some (.tbl ps)) (x : LamX.ExtN H1 H2) : Same B H2 := fun b o h => x b o (e b o h) fun ps z => n b ps (by rw [h, z])
theorem sqt_ext {K : PySem.W.Frag} {H1 H2 : Hp} {a : Addr} {xs : List V} (x : LamX.ExtN H1 H2) (h : SqT K H1 a xs) : SqT K H2 a xs := by
  rcases h with (h | ⟨o, h⟩) | h
  · exact .inl (.inl (x _ _ h fun ps z => by cases z))
  · exact .inl (.inr ⟨o, x _ _ h fun ps z => by cases z⟩)
  · exact .inr h
theorem sql_ext {K : PySem.W.Frag} {H1 H2 : Hp} {a : Addr} {xs : List V} (x : LamX.ExtN H1 H2) (h : SqL K H1 a xs) : SqL K H2 a xs := by
  rcases h with (h | ⟨o, h⟩) | h
  · exact .inl (.inl (x _ _ h fun ps z => by cases z))
  · exact .inl (.inr ⟨o, x _ _ h fun ps z => by cases z⟩)
  · exact .inr h
section
variable {X : Cx}
theorem pe_sortKey {α : Type} (kf : α → Str) {T : List (Addr × Str)} {c P : Addr} {k : Nat} {a : Str} {e : Expr} {params : Arguments} {scope : Scope} {p p1 p2 p3 lpos kpos pos : Pos} {kk : Nat} {te : TE} (hg : Gl X "sorted") (hm : X.mg "sorted" = none) (ha : PE X e te) (hr : Room (k + 1) X.A)
    (TB : LamX.TabB X.base X.mg c P) (hcode : X.env.code = .ref c) (hmT : (P, X.env.qual ++ "<lambda>") ∈ T) (hu : ∀ p ∈ T, p.1 = P → p.2 = X.env.qual ++ "<lambda>") (hdef : defaultsOf params X.env = ([], [])) (L : LamP a scope) (hda : (a == ("__debug__" : Str)) = false)
    (hbind : ∀ (q : Str) (cl : List (Str × Addr)) (pm cv ctv v : Value), bindArgs (PySem.W.kla_fn "<lambda>" q params (.Subscript (.Name a p1) (.Constant (.int 0) kk p2) p3) scope cl pm cv ctv) ⟨[v], []⟩ = pure [(a, v)])
    (he : backTo pos (starEach [e] X.env) = (false, eval e X.env) :: backTo pos (starEach [] X.env) := by rfl) (hpl : (backTo pos (starEach [e] X.env)).any Prod.fst = false := by rfl) (hes : starEach (e :: []) X.env = (false, eval e X.env) :: starEach [] X.env := by rfl) :
    PE X (.Call (.Name "sorted" p) [e] [⟨some "key", .Lambda params (.Subscript (.Name a p1) (.Constant (.int 0) kk p2) p3) scope lpos, kpos⟩] pos) (tSortKey kf X.K T te) := by
  refine ⟨fun pins s σ H Q I h => ?_⟩
  refine wpAny_Call_Name_kw (ld_blt I hg hm PyProof.Rows.boot_sorted ?_)
  refine PyProof.Rows.callWith_kw (thn ((pa_cons ha pa_nil hes).run pos pins s σ H (oneV fun v H1 => ∃ (a : Addr) (bs : List (V × α)), v = .ref a ∧ SqL X.K H1 a (bs.map Prod.fst) ∧ LamX.Tabs T H1 ∧
    (∀ y ∈ bs, ∃ t zs, y.1 = .ref t ∧ SqT X.K H1 t (.str (kf y.2) :: zs)) ∧ ∀ H2, LamX.ExtN H1 H2 → LamX.Tabs T H2 → ∀ p, H2 p = none → Q (.ref p) (upd H2 p (.lst ((bs.mergeSort (leK fun y => kf y.2)).map Prod.fst)))) I h) fun us s1 hh => ?_) he hpl (by rfl) (by rfl)
  · obtain ⟨vs, H1, I1, r1, hh⟩ := hh
    obtain ⟨v, rfl, hh⟩ := oneV_of hh
    obtain ⟨b, bs, rfl, hS, hT, hK, q⟩ := hh
    obtain ⟨u, rfl, hu1⟩ := r1.one
    obtain rfl : u = Value.ref b := hu1
    show wpAny _ _ (evalAll ((do let v ← eval (.Lambda params (.Subscript (.Name a p1) (.Constant (.int 0) kk p2) p3) scope lpos) X.env; standAt pos; pure v) :: [])) _ _ s1
    refine wpAny_evalAll_cons (wpAny_bind (LamX.lam_make2 I1 TB hcode hmT hu hT hdef (fun y hy e => absurd e (L.nof y hy)) fun f c' pm ctv H2 s2 I2 xN hT2 hf hfn hfr hco => wpAny_bind (wpAny_standAt (wpAny_pure (wpAny_evalAll_nil ?_)))))
    show wpAny _ _ (call (.builtin "sorted") [.ref b] [(Str.ofString "key", .ref f)]) _ _ s2
    have hS2 := sql_ext xN hS
    obtain ⟨its, rv, hl, hz⟩ := I2.list hS2
    obtain ⟨⟨oc, vsc, tc, hoc, hdc, hvc⟩, _, _⟩ := I2.hok c' _ hco
    have hcr : s2.heap.CodeRec (.ref c') (X.env.qual ++ "<lambda>") := ⟨c', oc, vsc, tc, rfl, hoc, hdc, hvc⟩
    refine PySem.W.sorted_key_data (β := V × α) (vs := its) (bs := bs) (R := fun v x => RelV x.1 v) (b := false) (fun y => PyData.str (kf y.2)) hl.isList (vals_each1 rv) ?_ ?_ ?_ ?_ (PyProof.Rows.ksk_s1 _ _) (fun _ => PyProof.Rows.ksk_l1 _ _) (fun x => PyProof.Rows.ksk_t1 f x) ?_ ?_
    · intro d hd d' hd'
      obtain ⟨y, _, rfl⟩ := List.mem_map.mp hd
      obtain ⟨y', _, rfl⟩ := List.mem_map.mp hd'
      rfl
    · refine Or.inr fun d hd => ?_
      obtain ⟨y, _, rfl⟩ := List.mem_map.mp hd
      constructor
      · intro z
        cases z
      · intro xs z
        cases z
    · rw [List.length_map] at hz
      exact hz
    · intro y hy
      have := hr.un
      show X.A.units + 2 + PyData.depth (.str (kf y.2)) < cLine
      have e : PyData.depth (.str (kf y.2)) ≤ 1 := by simp [PyData.depth]
      omega
    · intro v y hv hy h tk kp
      obtain ⟨t, zs, ey, ht⟩ := hK y hy
      rw [ey] at hv
      obtain rfl : v = Value.ref t := hv
      obtain ⟨jts, rj, hjt, _⟩ := I2.tuple (sqt_ext xN ht)
      cases rj with
      | @cons _ u0 _ js r0 rr =>
        obtain ⟨t0, rfl⟩ := r0
        obtain ⟨o, h1, h2, n, h3⟩ := hjt
        refine lam_key0 (s := { s2 with heap := h, toks := tk }) (A := X.A.in1.in1) (u := t0) (items := js) L hda (kp _ _ hf) ⟨c', oc, vsc, tc, rfl, kp _ _ hoc, hdc, hvc⟩ ?_ (I2.nolimit.keeps kp) (fun v => hbind _ _ _ _ _ v) ⟨o, kp _ _ h1, h2, n, h3⟩
        have := hr.dp
        show X.A.depth < recursionLimit
        omega
    · intro out cc h' tk kp fresh hD hlen' hE
      have hv := each_vals1 hE
      have hle : PySem.W.dataLe false (fun y : V × α => PyData.str (kf y.2)) = leK fun y => kf y.2 := PySem.W.dataLe_str _
      rw [hle] at hv
      have hl2 : ((bs.mergeSort (leK fun y => kf y.2)).map Prod.fst).length ≤ sizeLine := by
        rw [List.length_map, List.length_mergeSort]
        rw [List.length_map] at hz
        exact hz
      exact ⟨.ref _, upd H2 (s2.heap.objs.size + 1) (.lst ((bs.mergeSort (leK fun y => kf y.2)).map Prod.fst)), I2.laid (t' := tk) kp (Nat.le_succ _) ⟨hl2, out, cc, hv, hD⟩, rfl, q H2 xN hT2 _ (I2.hok.fresh (Nat.le_succ _))⟩
end
/-- a dict comprehension over a walk -/
theorem dc_it {J : It} {n : Nat} {G : Hp → Prop} {Y : Nat → Hp → V → Hp → Prop} (w : Walk J n G Y) {g : TG} {tt : TT} {tk tv : TE} {vs : List Nat} {σ : L2.St} {H1 : Hp} {D : Addr} {Qd : Hp → Prop} (Pv : Nat → Hp → Prop) (h0 : Pv 0 (upd H1 D (.dK []))) (hG : ∀ i H, i ≤ n → Pv i H → G H)
    (hs : ∀ i x H H', i < n → Pv i H → Y i H x H' → g x (wipe σ vs) H' fun σ2 H2 => wipe σ2 vs = wipe σ vs ∧ tt σ2 H2 fun b H3 =>
      if b = true then tk σ2 H3 fun y H4 => tv σ2 H4 fun z H5 => ∃ kvs k, y = kV k ∧ H5 D = some (.dK kvs) ∧ kvs.length < sizeLine ∧ Pv (i + 1) (upd H5 D (.dK (putK kvs k z))) else Pv (i + 1) H3) (hd : ∀ H, Pv n H → Qd H) :
    ∃ W : Nat → Nat → Hp → Prop, (∃ m, W 0 m (upd H1 D (.dK []))) ∧ ∀ i m H, W i m H →
      (J.stop i H ∧ Qd H) ∨ (J.go i H ∧ ∃ Nx : Hp → Prop, (∀ H', Nx H' → ∃ m', m' < m ∧ W (i + 1) m' H') ∧ ∀ x H', J.yld i H x H' → g x (wipe σ vs) H' fun σ2 H2 => wipe σ2 vs = wipe σ vs ∧ tt σ2 H2 fun b H3 =>
        if b = true then tk σ2 H3 fun y H4 => tv σ2 H4 fun z H5 => ∃ kvs k, y = kV k ∧ H5 D = some (.dK kvs) ∧ kvs.length < sizeLine ∧ Nx (upd H5 D (.dK (putK kvs k z))) else Nx H3) := by
  refine ⟨fun i m H => m = n - i ∧ i ≤ n ∧ Pv i H, ⟨n, by simp, Nat.zero_le _, h0⟩, ?_⟩
  rintro i m H ⟨rfl, hi, p⟩
  have q := hG i H hi p
  by_cases hlt : i < n
  · exact .inr ⟨w.goes i H hlt q, Pv (i + 1), fun H' p' => ⟨n - (i + 1), by omega, rfl, hlt, p'⟩, fun x H' y => hs i x H H' hlt p (w.yields i H x H' hlt q y)⟩
  · have e : i = n := by omega
    subst e
    exact .inl ⟨w.stops H q, hd H p⟩
theorem SD.ext {H H' : Hp} (x : LamX.ExtN H H') : SD H H' := fun b o h d => x b o h fun ps z => by
  rw [z] at d
  cases d
theorem tabs_upd {T : List (Addr × Str)} {H : Hp} {s : Addr} {u o : HO} (hT : LamX.Tabs T H) (h : H s = some u) (n1 : ∀ ps, u ≠ .tbl ps) (n2 : ∀ c q, u ≠ LamX.CodeO c q) : LamX.Tabs T (upd H s o) := by
  intro p hp
  obtain ⟨ps, h1, h2, h3⟩ := hT p hp
  refine ⟨ps, ?_, h2, fun pos cv hc => ?_⟩
  · rw [upd_ne fun z => by
      rw [z, h] at h1
      exact n1 _ (Option.some.inj h1)]
    exact h1
  · obtain ⟨c, e1, e2⟩ := h3 pos cv hc
    refine ⟨c, e1, ?_⟩
    rw [upd_ne fun z => by
      rw [z, h] at e2
      exact n2 _ _ (Option.some.inj e2)]
    exact e2
theorem tabs_ins {T : List (Addr × Str)} {H : Hp} {s C dx : Addr} {fs : List (Str × V)} {o : HO} (hT : LamX.Tabs T H) (h : H s = some (.ins C dx fs)) : LamX.Tabs T (upd H s o) := tabs_upd hT h (fun ps z => by cases z) (fun c q z => by unfold LamX.CodeO at z; cases z)
theorem tabs_lst {T : List (Addr × Str)} {H : Hp} {s : Addr} {xs : List V} {o : HO} (hT : LamX.Tabs T H) (h : H s = some (.lst xs)) : LamX.Tabs T (upd H s o) := tabs_upd hT h (fun ps z => by cases z) (fun c q z => by unfold LamX.CodeO at z; cases z)
end Fr

namespace Fr
open PySem PySem.Spec PyProof.Rows L2
section
variable {prog : Program} {w : World} {A : Around} {E : Value → Shared → Prop} {s : Shared}
theorem min_intTup {l : Addr} {xs : Array (Int × Tok)} {Q : Value → Shared → Prop} (hh : A.handled = none) (hl : s.heap.IsTuple l (intItems xs)) (hne : 0 < xs.size)
    (h : ∀ v h' tk, (intItems xs)[argBest (fun i j => decide (numAt xs i < numAt xs j)) (xs.size - 1)]? = some v → (∀ b o, s.heap.get? b = some o → h'.get? b = some o) → Q v { s with heap := h', toks := tk }) :
    wpAny (model prog w) A (call (.builtin "min") [.ref l]) Q E s := by
  refine call_min_walk (wpAny_pyIter_tuple hl ?_)
  obtain ⟨o, ho, hc, n, hd⟩ := hl
  have hlt : l < s.heap.objs.size := Heap.lt_size ho
  refine ⟨_, [_, l], [_], _, _, _, _, rfl, Walks.tuple (A := A.in1) hh _ l (Nat.ne_of_lt hlt) (intItems xs), ⟨⟨_, Heap.get?_push_size _ rfl, rfl, rfl⟩, ⟨o, Heap.get?_push_of_some _ ho, hc, n, hd⟩⟩, fun d hdm => ?_, by simpa [intItems] using hne, CmpOf.ints_lt (numAt xs) (fun _ _ => intItems_at), fun v h' tk hP hk => ?_⟩
  · show d < (s.heap.push _).objs.size
    rw [Heap.size_push]
    rcases List.mem_cons.mp hdm with rfl | hdm
    · exact Nat.lt_succ_self _
    · rcases List.mem_cons.mp hdm with rfl | hdm
      · exact Nat.lt_succ_of_lt hlt
      · cases hdm
  · refine h v h' tk (by simpa [intItems] using hP) fun d o e => hk d o (fun hm => ?_) (Heap.get?_push_of_some _ e)
    rcases List.mem_cons.mp hm with e1 | hm
    · have := Heap.lt_size e
      rw [e1] at this
      exact Nat.lt_irrefl _ this
    · cases hm
end
def rMinT (K : PySem.W.Frag) : List V → Hp → VK → Prop := fun vs H Q => ∃ (a : Addr) (ns : List Int), vs = [V.ref a] ∧ SqT K H a (ns.map V.int) ∧ 0 < ns.length ∧ ∀ m, m ∈ ns → (∀ y, y ∈ ns → m ≤ y) → Q (.int m) H
theorem cr_minT {X : Cx} (hc : X.calm = true) : CallR X (.builtin "min") (rMinT X.K) := by
  intro pins s σ H vs us Q I r h
  obtain ⟨a, ns, rfl, hs, hne, q⟩ := h
  obtain ⟨its, rv, hl, _⟩ := I.tuple hs
  rw [Vals.ref1 r]
  obtain ⟨xs, e⟩ := rv.ints.allInts.items
  have hn : numsOf (intItems xs).toList = ns := by rw [← e]; exact rv.ints.numsOf
  rw [nums_intItems] at hn
  subst hn
  rw [e] at hl
  have hsz : 0 < xs.size := by simpa using hne
  refine min_intTup (I.ok.hd hc) hl hsz fun v h' tk hv hk => ?_
  obtain ⟨t, rfl⟩ := intItems_at hv
  obtain ⟨h1, h2⟩ := argBest_lt (numAt xs) (xs.size - 1)
  refine ⟨.int _, H, I.kept hk, ⟨_, rfl⟩, q _ ?_ fun a ha => ?_⟩
  · rw [numAt_eq]; exact PySem.getD_mem (by rw [List.length_map, Array.length_toList]; omega)
  · obtain ⟨j, hj, rfl⟩ := mem_getD ha
    rw [List.length_map, Array.length_toList] at hj
    rw [← numAt_eq]; exact h2 j (by omega)
theorem sgrow {B H : Hp} {p : Addr} {o : HO} (e : Same B H) : Same (upd B p o) (upd H p o) := fun c u h => by
  by_cases hc : c = p
  · rw [hc, upd_same] at h ⊢
    exact h
  · rw [upd_ne hc] at h ⊢
    exact e c u h
/-- an object that the base does not know may change -/
theorem swrite {B H : Hp} {p : Addr} {o : HO} (e : Same B H) (n : B p = none) : Same B (upd H p o) := fun c u h => by
  rw [upd_ne (ne_of_none h n)]
  exact e c u h
theorem walk_zipT {K : PySem.W.Frag} {a b : Addr} {xs ys : List V} {n : Nat} (hn : n = min xs.length ys.length) : Walk (RZ.ItzT K a b) n (fun H => SqT K H a xs ∧ SqT K H b ys) (YPair (fun i => xs[i]?) (fun i => ys[i]?)) := by
  subst hn
  refine ⟨fun i _ hi q => ?_, fun _ q => ⟨xs, ys, q.1, q.2, by omega⟩, fun i H v H' _ q y => ?_⟩
  · have h1 : i < xs.length := by omega
    have h2 : i < ys.length := by omega
    exact ⟨xs, ys, xs[i], ys[i], q.1, q.2, by simp [h1], by simp [h2]⟩
  · obtain ⟨T, x, z, h1, h2, h3, h4, h5⟩ := y
    exact ⟨T, x, z, h1, h2, h3, h4 xs q.1, h5 ys q.2⟩
theorem range_map_get' {α : Type} (xs : List α) (f : Nat → α) (h : ∀ i x, xs[i]? = some x → f i = x) : (List.range xs.length).map f = xs := by
  refine List.ext_getElem? fun i => ?_
  by_cases hi : i < xs.length
  · rw [List.getElem?_map, get_range hi, List.getElem?_eq_getElem hi]
    exact congrArg some (h i _ (List.getElem?_eq_getElem hi))
  · rw [List.getElem?_eq_none (by simp; omega), List.getElem?_eq_none (by omega)]
/-- p - v -/
def minus (p v : List Int) : List Int := List.zipWith (fun a b => a - b) p v
theorem minus_at {p v : List Int} {i : Nat} {a b : Int} (h1 : p[i]? = some a) (h2 : v[i]? = some b) : (minus p v).getD i 0 = a - b := by
  unfold minus
  rw [List.getD_eq_getElem?_getD, List.getElem?_zipWith, h1, h2]
  rfl
theorem minus_range (p v : List Int) : (List.range (min p.length v.length)).map (fun i => V.int ((minus p v).getD i 0)) = (minus p v).map V.int := by
  have := range_map_get' ((minus p v).map V.int) (fun i => V.int ((minus p v).getD i 0)) (fun i b hb => by
    rw [List.getElem?_map] at hb
    obtain ⟨c, h1, h2⟩ := Option.map_eq_some_iff.mp hb
    rw [List.getD_eq_getElem?_getD, h1]
    exact h2)
  rw [List.length_map] at this
  unfold minus at this ⊢
  rw [List.length_zipWith] at this
  exact this
end Fr

namespace Fr
open PySem PySem.Spec PyProof.Rows L2
def topS (i : Nat) : Stmt := PySem.Challenge.pw_farreads_k01_systems_made.main.body.getD i (.Pass ⟨0, 0, 0, 0⟩)
abbrev s_is_name : Stmt := topS 12
theorem sc_is_name : FnScope ["text", "letter"] ["text"] (defScope s_is_name) := ⟨rfl, rfl, rfl, by decide +kernel, rfl, by decide +kernel, by decide +kernel⟩
-- slots: 0 text, 1 letter
abbrev s_is_read : Stmt := topS 13
theorem sc_is_read : FnScope ["read", "dimensions", "table", "vector", "factor"] ["read", "dimensions"] (defScope s_is_read) := ⟨rfl, rfl, rfl, by decide +kernel, rfl, by decide +kernel, by decide +kernel⟩
-- slots: 0 read, 1 dimensions, 2 table, 3 vector, 4 factor
abbrev s_System_dimensions : Stmt := inClass (topS 19) 3
theorem sc_System_dimensions : FnScope ["self"] ["self"] (defScope s_System_dimensions) := ⟨rfl, rfl, rfl, by decide +kernel, rfl, by decide +kernel, by decide +kernel⟩
-- slots: 0 self
abbrev s_System_modulus : Stmt := inClass (topS 19) 4
theorem sc_System_modulus : FnScope ["self"] ["self"] (defScope s_System_modulus) := ⟨rfl, rfl, rfl, by decide +kernel, rfl, by decide +kernel, by decide +kernel⟩
-- slots: 0 self
abbrev s_System_names : Stmt := inClass (topS 19) 5
theorem sc_System_names : FnScope ["self"] ["self"] (defScope s_System_names) := ⟨rfl, rfl, rfl, by decide +kernel, rfl, by decide +kernel, by decide +kernel⟩
-- slots: 0 self
abbrev s_check_table : Stmt := topS 17
theorem sc_check_table : FnScope ["system", "name"] ["system", "name"] (defScope s_check_table) := ⟨rfl, rfl, rfl, by decide +kernel, rfl, by decide +kernel, by decide +kernel⟩
-- slots: 0 system, 1 name
abbrev s_System_reads : Stmt := inClass (topS 19) 7
theorem sc_System_reads : FnScope ["self", "name"] ["self", "name"] (defScope s_System_reads) := ⟨rfl, rfl, rfl, by decide +kernel, rfl, by decide +kernel, by decide +kernel⟩
-- slots: 0 self, 1 name
abbrev s_check_tables : Stmt := topS 15
theorem sc_check_tables : FnScope ["dimensions", "tables", "names", "table", "many", "row", "name", "_", "reads", "read"] ["dimensions", "tables"] (defScope s_check_tables) := ⟨rfl, rfl, rfl, by decide +kernel, rfl, by decide +kernel, by decide +kernel⟩
-- slots: 0 dimensions, 1 tables, 2 names, 3 table, 4 many, 5 row, 6 name, 7 _, 8 reads, 9 read
abbrev s_check_tables_that_are_read : Stmt := topS 16
theorem sc_check_tables_that_are_read : FnScope ["tables", "names", "table", "row", "read"] ["tables"] (defScope s_check_tables_that_are_read) := ⟨rfl, rfl, rfl, by decide +kernel, rfl, by decide +kernel, by decide +kernel⟩
-- slots: 0 tables, 1 names, 2 table, 3 row, 4 read
abbrev s_check_system : Stmt := topS 14
theorem sc_check_system : FnScope ["dimensions", "tables", "modulus"] ["dimensions", "tables", "modulus"] (defScope s_check_system) := ⟨rfl, rfl, rfl, by decide +kernel, rfl, by decide +kernel, by decide +kernel⟩
-- slots: 0 dimensions, 1 tables, 2 modulus
abbrev s_System_init : Stmt := inClass (topS 19) 0
theorem sc_System_init : FnScope ["self", "dimensions", "tables", "modulus", "rows", "name", "constant", "reads"] ["self", "dimensions", "tables", "modulus"] (defScope s_System_init) := ⟨rfl, rfl, rfl, by decide +kernel, rfl, by decide +kernel, by decide +kernel⟩
-- slots: 0 self, 1 dimensions, 2 tables, 3 modulus, 4 rows, 5 name, 6 constant, 7 reads
structure Rd1 where
  t : Str
  v : List Int
  f : Int
structure Tb where
  n : Str
  c : Int
  rs : List Rd1
def Rd1.d (r : Rd1) : PyData := .tuple [.str r.t, .tuple (r.v.map .int), .int r.f]
/-- as a caller hands it in: the reads in a list -/
def Tb.d (t : Tb) : PyData := .tuple [.str t.n, .int t.c, .list (t.rs.map Rd1.d)]
/-- as a system keeps it -/
def Tb.k (t : Tb) : PyData := .tuple [.int t.c, .tuple (t.rs.map Rd1.d)]
def flds (d m : Int) (t : Addr) : List (Str × V) := putF "_tables" (.ref t) (putF "_modulus" (.int m) (putF "_dimensions" (.int d) []))
theorem nDM : ¬ (("_dimensions" : Str) = "_modulus") := by decide +kernel
theorem nDT : ¬ (("_dimensions" : Str) = "_tables") := by decide +kernel
theorem nMT : ¬ (("_modulus" : Str) = "_tables") := by decide +kernel
theorem flds_d (d m : Int) (t : Addr) : (flds d m t).lookup ("_dimensions" : Str) = some (.int d) := by
  unfold flds
  rw [lookup_putF, if_neg nDT, lookup_putF, if_neg nDM, lookup_putF, if_pos rfl]
theorem flds_m (d m : Int) (t : Addr) : (flds d m t).lookup ("_modulus" : Str) = some (.int m) := by
  unfold flds
  rw [lookup_putF, if_neg nMT, lookup_putF, if_pos rfl]
theorem flds_t (d m : Int) (t : Addr) : (flds d m t).lookup ("_tables" : Str) = some (.ref t) := by
  unfold flds
  rw [lookup_putF, if_pos rfl]
theorem flds_no (d m : Int) (t : Addr) {x : Str} (h1 : ¬ x = "_dimensions") (h2 : ¬ x = "_modulus") (h3 : ¬ x = "_tables") : (flds d m t).lookup x = none := by
  unfold flds
  rw [lookup_putF, if_neg h3, lookup_putF, if_neg h2, lookup_putF, if_neg h1]
  rfl
def KvAt (K : PySem.W.Frag) (H : Hp) (kvs : List (Key × V)) (ts : List Tb) : Prop := Paired (fun (kv : Key × V) (t : Tb) => kv.1 = Sum.inr t.n ∧ Dp K H kv.2 t.k) kvs ts
theorem KvAt.mono {K : PySem.W.Frag} {H H' : Hp} (e : Same H H') : ∀ {kvs : List (Key × V)} {ts : List Tb}, KvAt K H kvs ts → KvAt K H' kvs ts
  | [], _, h => by cases h; exact .nil
  | kv :: kvs, _, h => by
    cases h with
    | cons h1 h2 => exact .cons ⟨h1.1, dpm e _ _ h1.2⟩ (KvAt.mono e h2)
theorem KvAt.monoD {K : PySem.W.Frag} {H H' : Hp} (e : SD H H') : ∀ {kvs : List (Key × V)} {ts : List Tb}, KvAt K H kvs ts → KvAt K H' kvs ts
  | [], _, h => by cases h; exact .nil
  | kv :: kvs, _, h => by
    cases h with
    | cons h1 h2 => exact .cons ⟨h1.1, dpd e _ _ h1.2⟩ (KvAt.monoD e h2)
theorem KvAt.app {K : PySem.W.Frag} {H : Hp} : ∀ {kvs ls : List (Key × V)} {ts us : List Tb}, KvAt K H kvs ts → KvAt K H ls us → KvAt K H (kvs ++ ls) (ts ++ us)
  | [], _, _, _, h, k => by cases h; exact k
  | kv :: kvs, _, _, _, h, k => by
    cases h with
    | cons h1 h2 => exact .cons h1 (KvAt.app h2 k)
theorem KvAt.noVal {K : PySem.W.Frag} {H : Hp} {x : Str} : ∀ {kvs : List (Key × V)} {ts : List Tb}, KvAt K H kvs ts → x ∉ ts.map (·.n) → valV kvs (Sum.inr x) = none
  | [], _, h, e => by cases h; rfl
  | (k, v) :: kvs, _, h, e => by
    cases h with
    | @cons _ t' _ ts' h1 h2 =>
      have h1' : k = Sum.inr t'.n := h1.1
      have hx : ¬ t'.n = x := fun z => e (by rw [← z]; exact List.mem_cons_self)
      have e2 := KvAt.noVal (x := x) h2 fun z => e (List.mem_cons_of_mem _ z)
      unfold valV at e2 ⊢
      rw [List.find?_cons_of_neg (by simp [h1', hx])]
      exact e2
theorem KvAt.len {K : PySem.W.Frag} {H : Hp} {kvs : List (Key × V)} {ts : List Tb} (h : KvAt K H kvs ts) : kvs.length = ts.length := Paired.length h
theorem KvAt.keys {K : PySem.W.Frag} {H : Hp} : ∀ {kvs : List (Key × V)} {ts : List Tb}, KvAt K H kvs ts → kvs.map (fun kv => kV kv.1) = ts.map fun t => V.str t.n
  | [], _, h => by cases h; rfl
  | kv :: kvs, _, h => by
    cases h with
    | cons h1 h2 =>
      rw [List.map_cons, List.map_cons, KvAt.keys h2, h1.1]
      rfl
theorem KvAt.get {K : PySem.W.Frag} {H : Hp} {x : Str} : ∀ {kvs : List (Key × V)} {ts : List Tb}, KvAt K H kvs ts → ∀ {t : Tb}, ts.find? (fun t => decide (t.n = x)) = some t → ∃ v, valV kvs (Sum.inr x) = some v ∧ Dp K H v t.k
  | [], _, h, t, e => by cases h; cases e
  | (k, v) :: kvs, _, h, t, e => by
    cases h with
    | @cons _ t' _ ts' h1 h2 =>
      obtain ⟨h1, h3⟩ := h1
      have h1 : k = Sum.inr t'.n := h1
      by_cases hx : t'.n = x
      · rw [List.find?_cons_of_pos (by simpa using hx)] at e
        cases e
        refine ⟨v, ?_, h3⟩
        unfold valV
        rw [List.find?_cons_of_pos (by simp [h1, hx])]
        rfl
      · rw [List.find?_cons_of_neg (by simpa using hx)] at e
        obtain ⟨v', e1, e2⟩ := KvAt.get h2 e
        refine ⟨v', ?_, e2⟩
        unfold valV at e1 ⊢
        rw [List.find?_cons_of_neg (by simp [h1, hx])]
        exact e1
structure SysAt (K : PySem.W.Frag) (C : Addr) (H : Hp) (s : Addr) (d m : Int) (ts : List Tb) : Prop where
  ob : ∃ (dx t : Addr) (kvs : List (Key × V)), H s = some (.ins C dx (flds d m t)) ∧ H t = some (.dK kvs) ∧ KvAt K H kvs ts
theorem SysAt.mono {K : PySem.W.Frag} {C : Addr} {H H' : Hp} {s : Addr} {d m : Int} {ts : List Tb} (e : Same H H') (h : SysAt K C H s d m ts) : SysAt K C H' s d m ts := by
  obtain ⟨dx, t, kvs, h1, h2, h3⟩ := h.ob
  exact ⟨dx, t, kvs, e _ _ h1, e _ _ h2, h3.mono e⟩
structure TxtC (K : PySem.W.Frag) (mg : Str → Option Value) (C : Addr) : Prop where
  cl : Cls K C
  nD : NoAttr K C "_dimensions"
  nM : NoAttr K C "_modulus"
  nT : NoAttr K C "_tables"
  g_System : mg "System" = some (.ref C)
def okSign (c : Nat) : Bool := !decide ([c] < [97]) && !decide ([122] < [c])
def isName (x : Str) : Bool := decide (1 ≤ (x.length : Int)) && decide ((x.length : Int) ≤ 8) && x.cps.toList.all okSign
structure Txt (mg : Str → Option Value) : Prop where
  b_len : mg "len" = none
  b_all : mg "all" = none
  b_min : mg "min" = none
  b_abs : mg "abs" = none
  b_int : mg "int" = none
  b_list : mg "list" = none
  b_tuple : mg "tuple" = none
  b_range : mg "range" = none
  b_zip : mg "zip" = none
  b_enumerate : mg "enumerate" = none
  b_sorted : mg "sorted" = none
  g_MOST_DIMENSIONS : ∃ u, mg "MOST_DIMENSIONS" = some u ∧ RelV (.int 3) u
  g_MOST_TABLES : ∃ u, mg "MOST_TABLES" = some u ∧ RelV (.int 6) u
  g_MOST_READS : ∃ u, mg "MOST_READS" = some u ∧ RelV (.int 12) u
  g_MOST_LETTERS : ∃ u, mg "MOST_LETTERS" = some u ∧ RelV (.int 8) u
theorem range_map_get {α : Type} (xs : List α) (f : Nat → α) (h : ∀ i x, xs[i]? = some x → f i = x) : (List.range xs.length).map f = xs := by
  refine List.ext_getElem? fun i => ?_
  by_cases hi : i < xs.length
  · rw [List.getElem?_map, get_range hi, List.getElem?_eq_getElem hi]
    exact congrArg some (h i _ (List.getElem?_eq_getElem hi))
  · rw [List.getElem?_eq_none (by simp; omega), List.getElem?_eq_none (by omega)]
section
variable {P : Program} {w : World} {K : PySem.W.Frag} {mg : Str → Option Value} {base : Heap}
def spIsName : Sp := fun vs H Q _ => ∃ x : Str, vs = [.str x] ∧ x.length ≤ 100000 ∧ ∀ H', Same H H' → Q (.bl (isName x)) H'
theorem ok_is_name {f : Addr} {fd : FuncData} (F : Fun K "is_name" "is_name" s_is_name f fd) (T : Txt mg) : FnOk P w K mg base CX0 1 f fd ["text"] spIsName := by
  refine F.ok sc_is_name (fun vs H Q E h => ?_) (fun cdv A outer s H vs Q E hr h => ?_)
  · obtain ⟨x, rfl, _⟩ := h
    rfl
  · obtain ⟨x, rfl, hx, q⟩ := h
    refine ⟨_, (pss_one (ps_ret (pe_and (pe_chain op_le op_le pe_int (pe_callB call_len_str (by rfl) T.b_len PySem.boot_len (pa_cons (pv 0) pa_nil)) (C8.pe_gc (by rfl) T.g_MOST_LETTERS)) (pe_one (pe_callB (cr_all rfl) (by rfl) T.b_all (by decide +kernel) (pa_cons (pe_lc (own := [("letter", 1)]) (g := gName 1) (tt := tYes) (by rfl) sc_is_name.nd (pi_str (pv 0)) (blkOk_by (N := ["text", "letter"]) (sc := defScope s_is_name) (by decide +kernel)) (fun _ _ _ _ _ => (pg_name (i := 1) sc_is_name.nd rfl (by first | exact Or.inl rfl | exact Or.inr rfl))) (fun _ _ _ _ _ => pts_nil) (fun _ _ _ _ _ => (pe_chain op_le_str op_le_str pe_str (pv 1) pe_str))) pa_nil)))))), ?_⟩
    have hs : x.length ≤ sizeLine := Nat.le_trans hx (by rw [sizeLine_eq]; decide)
    refine ⟨.str x, rfl, x, rfl, hs, 1, x.length, rfl, rfl, decide (1 ≤ (x.length : Int)), rfl, ?_⟩
    unfold isName at q
    refine ite2 (fun h1 => ?_) (fun h1 => ?_)
    · refine ⟨x.length, 8, rfl, rfl, decide ((x.length : Int) ≤ 8), rfl, ?_⟩
      rw [h1] at q
      refine ite2 (fun h2 => ?_) (fun h2 => ?_)
      · rw [h2] at q
        refine ⟨.str x, rfl, x, rfl, fun D hD => lc_flat walk_str (fun i => .bl (okSign (x.cps.toList.getD i 0))) ?_ hD (fun _ _ => True.intro) (fun i H x H' y => by obtain ⟨rfl, _⟩ := y; exact same_refl) ?_ ?_⟩
        · show x.length ≤ _
          omega
        · rintro i v H1 H2 hi sm ⟨rfl, c, hc, rfl⟩ R hR
          have ec : x.cps.toList.getD i 0 = c := by
            rw [List.getD_eq_getElem?_getD, Array.getElem?_toList, hc]
            rfl
          refine ⟨rfl, .str ⟨#[c]⟩, rfl, ⟨#[97]⟩, ⟨#[c]⟩, rfl, rfl, _, rfl, ?_⟩
          have e2 : okSign (x.cps.toList.getD i 0) = (!decide ([c] < [97]) && !decide ([122] < [c])) := by rw [ec]; rfl
          refine ite2 (fun h3 => ?_) (fun h3 => ?_)
          · refine ⟨⟨#[c]⟩, ⟨#[122]⟩, rfl, rfl, ?_⟩
            have r := hR H2 same_refl
            rw [e2] at r
            have h3' : (!decide ([c] < [97])) = true := h3
            rw [h3'] at r
            exact r
          · have r := hR H2 same_refl
            rw [e2] at r
            have h3' : (!decide ([c] < [97])) = false := by simpa using h3
            rw [h3'] at r
            exact r
        · intro H1 sm hD1
          refine ⟨D, (List.range x.cps.size).map fun i => okSign (x.cps.toList.getD i 0), rfl, Or.inl (Or.inl ?_), ?_⟩
          · rw [hD1, List.map_map]
            rfl
          · have e : (List.range x.cps.size).map (fun i => okSign (x.cps.toList.getD i 0)) = x.cps.toList.map okSign := by
              have := range_map_get (x.cps.toList.map okSign) (fun i => okSign (x.cps.toList.getD i 0)) (fun i b hb => by
                rw [List.getElem?_map] at hb
                obtain ⟨c, h1, h2⟩ := Option.map_eq_some_iff.mp hb
                rw [List.getD_eq_getElem?_getD, h1]
                exact h2)
              rw [List.length_map] at this
              exact this
            rw [e, List.all_map]
            exact q H1 sm
      · have h2' : decide ((x.length : Int) ≤ 8) = false := by simpa using h2
        rw [h2'] at q
        exact q H same_refl
    · have h1' : decide (1 ≤ (x.length : Int)) = false := by simpa using h1
      rw [h1'] at q
      refine ⟨false, rfl, ?_⟩
      exact q H same_refl
def isRead (d : Int) (r : Rd1) : Bool := isName r.t && (decide ((r.v.length : Int) = d) && !decide (r.f = 0))
def spIsRead (K : PySem.W.Frag) : Sp := fun vs H Q _ => ∃ (v : V) (r : Rd1) (d : Int), vs = [v, .int d] ∧ Dp K H v r.d ∧ r.t.length ≤ 100000 ∧ ∀ H', Same H H' → Q (.bl (isRead d r)) H'
theorem ok_is_read {f : Addr} {fd : FuncData} (F : Fun K "is_read" "is_read" s_is_read f fd) (T : Txt mg) (c_is_name : C8.Cal P w K mg base 1 "is_name" spIsName []) : FnOk P w K mg base CX0 2 f fd ["read", "dimensions"] (spIsRead K) := by
  refine F.ok sc_is_read (fun vs H Q E h => ?_) (fun cdv A outer s H vs Q E hr h => ?_)
  · obtain ⟨v, r, d, rfl, _⟩ := h
    rfl
  · obtain ⟨v, r, d, rfl, hv, hz, q⟩ := h
    refine ⟨_, (pss_cons (ps_asg (pv 0) (pg_tup rfl (pgs_cons (pg_name (i := 2) sc_is_read.nd rfl (by first | exact Or.inl rfl | exact Or.inr rfl)) (pgs_cons (pg_name (i := 3) sc_is_read.nd rfl (by first | exact Or.inl rfl | exact Or.inr rfl)) (pgs_cons (pg_name (i := 4) sc_is_read.nd rfl (by first | exact Or.inl rfl | exact Or.inr rfl)) pgs_nil)))))
  (pss_one (ps_ret (pe_and (C8.pe_c c_is_name hr (by decide) (by rfl) (pa_cons (pv 2) pa_nil)) (pe_and (pe_cmpR op_eq (pe_callB call_len_seq (by rfl) T.b_len PySem.boot_len (pa_cons (pv 3) pa_nil)) (pv 1) (nomark _)) (pe_one (pe_cmpR op_ne (pv 4) pe_int (nomark _)))))))), ?_⟩
    obtain ⟨a, xs, rfl, ht, hd⟩ := dtup hv
    obtain ⟨x1, x2, x3, rfl, h1, h2, h3⟩ := dps3 hd
    obtain rfl := dstr h1
    obtain rfl := dint h3
    obtain ⟨b, ys, rfl, ht2, hd2⟩ := dtup h2
    have hl2 := dps_len hd2
    refine ⟨_, rfl, a, _, rfl, ht, rfl, _, _, rfl, _, _, rfl, _, _, rfl, rfl, ?_⟩
    unfold isRead at q
    refine ⟨.str r.t, rfl, r.t, rfl, hz, fun H1 sm => ⟨_, rfl, ?_⟩⟩
    cases hn : isName r.t with
    | false =>
      refine iteF ?_
      have z := q H1 sm
      rw [hn] at z
      exact z
    | true =>
      refine iteT ?_
      refine ⟨_, rfl, b, ys, rfl, Or.inr (sqt sm ht2), _, rfl, rfl, _, rfl, ?_⟩
      have z := q H1 sm
      rw [hn] at z
      have e : decide (V.int (ys.length : Int) = V.int d) = decide ((r.v.length : Int) = d) := by
        rw [hl2, List.length_map]
        exact decide_eq_decide.mpr ⟨fun h => V.int.inj h, fun h => congrArg V.int h⟩
      rw [e]
      cases hq : decide ((r.v.length : Int) = d) with
      | false =>
        refine iteF ?_
        rw [hq] at z
        exact z
      | true =>
        refine iteT ?_
        rw [hq] at z
        refine ⟨_, rfl, rfl, ?_⟩
        have e3 : decide (V.int r.f = V.int 0) = decide (r.f = 0) := decide_eq_decide.mpr ⟨fun h => V.int.inj h, fun h => congrArg V.int h⟩
        rw [e3]
        exact z
def spDims (K : PySem.W.Frag) (C : Addr) : Sp := fun vs H Q _ => ∃ (s : Addr) (d m : Int) (ts : List Tb), vs = [.ref s] ∧ SysAt K C H s d m ts ∧ Q (.int d) H
theorem ok_dims {f C : Addr} {fd : FuncData} (F : Fun K "dimensions" "System.dimensions" s_System_dimensions f fd) (TC : TxtC K mg C) : FnOk P w K mg base CX0 1 f fd ["self"] (spDims K C) := by
  refine F.ok sc_System_dimensions (fun vs H Q E h => ?_) (fun cdv A outer s H vs Q E hr h => ?_)
  · obtain ⟨s, d, m, ts, rfl, _⟩ := h
    rfl
  · obtain ⟨s, d, m, ts, rfl, S, q⟩ := h
    refine ⟨_, (pss_one (ps_ret (pe_fld (pv 0) rfl))), ?_⟩
    obtain ⟨dx, t, kvs, h1, h2, h3⟩ := S.ob
    exact ⟨_, rfl, s, C, dx, _, _, rfl, h1, TC.cl, TC.nD, flds_d _ _ _, q⟩
def spMod (K : PySem.W.Frag) (C : Addr) : Sp := fun vs H Q _ => ∃ (s : Addr) (d m : Int) (ts : List Tb), vs = [.ref s] ∧ SysAt K C H s d m ts ∧ Q (.int m) H
theorem ok_mod {f C : Addr} {fd : FuncData} (F : Fun K "modulus" "System.modulus" s_System_modulus f fd) (TC : TxtC K mg C) : FnOk P w K mg base CX0 1 f fd ["self"] (spMod K C) := by
  refine F.ok sc_System_modulus (fun vs H Q E h => ?_) (fun cdv A outer s H vs Q E hr h => ?_)
  · obtain ⟨s, d, m, ts, rfl, _⟩ := h
    rfl
  · obtain ⟨s, d, m, ts, rfl, S, q⟩ := h
    refine ⟨_, (pss_one (ps_ret (pe_fld (pv 0) rfl))), ?_⟩
    obtain ⟨dx, t, kvs, h1, h2, h3⟩ := S.ob
    exact ⟨_, rfl, s, C, dx, _, _, rfl, h1, TC.cl, TC.nM, flds_m _ _ _, q⟩
def spNames (K : PySem.W.Frag) (C : Addr) : Sp := fun vs H Q _ => ∃ (s : Addr) (d m : Int) (ts : List Tb), vs = [.ref s] ∧ SysAt K C H s d m ts ∧ ∀ p H', H p = none → Same H H' → H' p = some (.lst (ts.map fun t => V.str t.n)) → Q (.ref p) H'
theorem ok_names {f C : Addr} {fd : FuncData} (F : Fun K "names" "System.names" s_System_names f fd) (T : Txt mg) (TC : TxtC K mg C) : FnOk P w K mg base CX0 1 f fd ["self"] (spNames K C) := by
  refine F.ok sc_System_names (fun vs H Q E h => ?_) (fun cdv A outer s H vs Q E hr h => ?_)
  · obtain ⟨s, d, m, ts, rfl, _⟩ := h
    rfl
  · obtain ⟨s, d, m, ts, rfl, S, q⟩ := h
    refine ⟨_, (pss_one (ps_ret (pe_callTy (call_listD rfl) (by rfl) T.b_list (by decide +kernel) (pa_cons (pe_fld (pv 0) rfl) pa_nil)))), ?_⟩
    obtain ⟨dx, t, kvs, h1, h2, h3⟩ := S.ob
    refine ⟨_, rfl, s, C, dx, _, _, rfl, h1, TC.cl, TC.nT, flds_t _ _ _, t, kvs, rfl, Or.inl h2, fun p hp => ?_⟩
    refine q p _ hp (snew hp) ?_
    rw [upd_same, h3.keys]
def okPoint (d : Int) (p : List Int) : Bool := decide ((p.length : Int) = d) && p.all fun i => decide (0 ≤ i)
def spCheckTable (K : PySem.W.Frag) (C : Addr) : Sp := fun vs H Q _ => ∃ (s : Addr) (d m : Int) (ts : List Tb) (x : Str), vs = [.ref s, .str x] ∧ SysAt K C H s d m ts ∧ x ∈ ts.map (·.n) ∧ ∀ H', Same H H' → Q .non H'
theorem inV_str {x : Str} : ∀ {l : List Str}, x ∈ l → inV (.str x) (l.map V.str) = true := by
  intro l h
  unfold inV
  rw [List.any_map, List.any_eq_true]
  refine ⟨x, h, ?_⟩
  first
    | rfl
    | simp [eqV]
theorem flat_strs (l : List Str) : (l.map V.str).all flatV = true := by
  rw [List.all_map, List.all_eq_true]
  intro x _
  rfl
theorem ok_check_table {f C : Addr} {fd : FuncData} (F : Fun K "check_table" "check_table" s_check_table f fd) (T : Txt mg) (p_names : Prp P w K mg base 1 C "names" (spNames K C)) : FnOk P w K mg base CX0 3 f fd ["system", "name"] (spCheckTable K C) := by
  refine F.ok sc_check_table (fun vs H Q E h => ?_) (fun cdv A outer s H vs Q E hr h => ?_)
  · obtain ⟨s, d, m, ts, x, rfl, _⟩ := h
    rfl
  · obtain ⟨s, d, m, ts, x, rfl, S, hx, q⟩ := h
    refine ⟨_, (pss_one (ps_if (pt_cmpR op_notIn_seq (pv 1) (pe_pr (pv 0) p_names hr (by decide) rfl) (by rfl))
    (pss_one ps_never)
    pss_nil)), ?_⟩
    obtain ⟨dx, t, kvs, h1, h2, h3⟩ := S.ob
    refine ⟨_, rfl, _, rfl, s, dx, _, rfl, h1, s, d, m, ts, rfl, S, fun p H' hp sm hl => ?_⟩
    have e : (ts.map fun t => V.str t.n) = (ts.map (·.n)).map V.str := by
      rw [List.map_map]
      rfl
    refine ⟨p, _, rfl, Or.inl (Or.inl (Or.inl hl)), rfl, ?_, ?_⟩
    · rw [e]
      exact flat_strs _
    · rw [e, inV_str hx]
      exact ⟨_, rfl, iteF (q H' sm)⟩
def spReads (K : PySem.W.Frag) (C : Addr) : Sp := fun vs H Q _ => ∃ (B : Hp) (s : Addr) (d m : Int) (ts : List Tb) (x : Str) (tb : Tb), vs = [.ref s, .str x] ∧ Same B H ∧ SysAt K C B s d m ts ∧ x ∈ ts.map (·.n) ∧ ts.find? (fun t => decide (t.n = x)) = some tb ∧
  ∀ p H' xs, H p = none → Same H H' → H' p = some (.lst xs) → DpAll K B xs (tb.rs.map Rd1.d) → Q (.ref p) H'
theorem ok_reads {f C : Addr} {fd : FuncData} (F : Fun K "reads" "System.reads" s_System_reads f fd) (T : Txt mg) (TC : TxtC K mg C) (c_check_table : C8.Cal P w K mg base 3 "check_table" (spCheckTable K C) []) : FnOk P w K mg base CX0 4 f fd ["self", "name"] (spReads K C) := by
  refine F.ok sc_System_reads (fun vs H Q E h => ?_) (fun cdv A outer s H vs Q E hr h => ?_)
  · obtain ⟨B, s, d, m, ts, x, tb, rfl, _⟩ := h
    rfl
  · obtain ⟨B, s, d, m, ts, x, tb, rfl, sB, S, hx, hf, q⟩ := h
    have hu := hu_of hr
    refine ⟨_, (pss_cons (ps_expr (C8.pe_c c_check_table hr (by decide) (by rfl) (pa_cons (pv 0) (pa_cons (pv 1) pa_nil))))
  (pss_one (ps_ret (pe_callTy call_list_of (by rfl) T.b_list (by decide +kernel) (pa_cons (pe_ix ix_tup (pe_dget hu (pe_fld (pv 0) rfl) (pv 1) (fun _ _ => rfl)) pe_int (fun _ _ => rfl)) pa_nil))))), ?_⟩
    refine ⟨_, rfl, _, rfl, s, d, m, ts, x, rfl, S.mono sB, hx, fun H1 sm => ?_⟩
    obtain ⟨dx, t, kvs, h1, h2, h3⟩ := S.ob
    have sB1 := same_tr sB sm
    have h1 := sB1 _ _ h1
    have h2 := sB1 _ _ h2
    obtain ⟨v, e1, e2⟩ := h3.get hf
    obtain ⟨a, ys, rfl, ht, hd⟩ := dtup e2
    obtain ⟨y1, y2, rfl, g1, g2⟩ := dps2 hd
    obtain ⟨b, zs, rfl, ht2, hd2⟩ := dtup g2
    refine ⟨_, rfl, s, C, dx, _, _, rfl, h1, TC.cl, TC.nT, flds_t _ _ _, _, rfl, t, _, rfl, ?_, a, _, 1, _, rfl, rfl, sqt sB1 ht, rfl, b, zs, rfl, Or.inr (sqt sB1 ht2), fun p hp => ?_⟩
    · have g := DGet.k (k := Sum.inr x) h2
      rw [e1] at g
      exact g
    · exact q p _ _ (free_of sm hp) (same_tr sm (snew hp)) upd_same hd2
structure OkT (d : Int) (ts : List Tb) : Prop where
  names : ∀ t ∈ ts, isName t.n = true
  nodup : (ts.map (·.n)).Nodup
  few : (ts.map fun t => t.rs.length).sum ≤ 12
  reads : ∀ t ∈ ts, ∀ r ∈ t.rs, isRead d r = true
  here : ∀ t ∈ ts, ∀ r ∈ t.rs, r.t ∈ ts.map (·.n)
theorem name_len {x : Str} (h : isName x = true) : x.length ≤ 100000 := by
  unfold isName at h
  rw [Bool.and_eq_true, Bool.and_eq_true] at h
  have := of_decide_eq_true h.1.2
  omega
theorem read_len {d : Int} {r : Rd1} (h : isRead d r = true) : r.t.length ≤ 100000 := by
  unfold isRead at h
  rw [Bool.and_eq_true] at h
  exact name_len h.1
def nth (l : List Str) (i : Nat) : Str := l.getD i Str.empty
theorem nth_of {l : List Str} {i : Nat} {x : Str} (h : l[i]? = some x) : nth l i = x := by
  unfold nth
  rw [List.getD_eq_getElem?_getD, h]
  rfl
theorem nths (l : List Str) : (List.range l.length).map (fun i => V.str (nth l i)) = l.map V.str := by
  have := range_map_get (l.map V.str) (fun i => V.str (nth l i)) (fun i b hb => by
    rw [List.getElem?_map] at hb
    obtain ⟨c, h1, h2⟩ := Option.map_eq_some_iff.mp hb
    rw [nth_of h1]
    exact h2)
  rw [List.length_map] at this
  exact this
theorem cut_to (xs : List V) (i : Nat) (h : i ≤ xs.length) : cutV xs none (some (i : Int)) = xs.take i := by
  unfold cutV
  rw [show HT.sIx xs.length xs.length (some (i : Int)) = min i xs.length from HT.sIx_nat xs.length xs.length i, HT.sIx_none, List.drop_zero, Nat.sub_zero, Nat.min_eq_left h]
theorem notin_take {l : List Str} {i : Nat} {x : Str} (hn : l.Nodup) (h : l[i]? = some x) : x ∉ l.take i := by
  intro hm
  obtain ⟨j, hj, e⟩ := List.mem_iff_getElem.mp hm
  rw [List.length_take] at hj
  have e2 : l[j]? = some x := by
    rw [List.getElem_take] at e
    rw [List.getElem?_eq_getElem (by omega), e]
  have := nd_ix hn e2 h
  omega
theorem inV_no {x : Str} : ∀ {l : List Str}, x ∉ l → inV (.str x) (l.map V.str) = false := by
  intro l h
  unfold inV
  rw [List.any_map, List.any_eq_false]
  intro y hy e
  have e' : y = x := by
    first
      | exact of_decide_eq_true e
      | simpa [eqV] using e
  exact h (e' ▸ hy)
/-- what stands at the i-th place of a list of tables -/
theorem tb_at {H : Hp} {xs : List V} {ts : List Tb} {i : Nat} {x : V} (h : DpAll K H xs (ts.map Tb.d)) (e : xs[i]? = some x) : ∃ t a l ys, ts[i]? = some t ∧ x = .ref a ∧ SqT K H a [.str t.n, .int t.c, .ref l] ∧ SqL K H l ys ∧ DpAll K H ys (t.rs.map Rd1.d) := by
  obtain ⟨d, e1, e2⟩ := dps_get h e
  rw [List.getElem?_map] at e1
  obtain ⟨t, e3, rfl⟩ := Option.map_eq_some_iff.mp e1
  obtain ⟨a, zs, rfl, ht, hd⟩ := dtup e2
  obtain ⟨z1, z2, z3, rfl, h1, h2, h3⟩ := dps3 hd
  obtain rfl := dstr h1
  obtain rfl := dint h2
  obtain ⟨l, ys, rfl, hl, hy⟩ := dlst h3
  exact ⟨t, a, l, ys, e3, rfl, ht, hl, hy⟩
theorem rd_at {H : Hp} {xs : List V} {rs : List Rd1} {i : Nat} {x : V} (h : DpAll K H xs (rs.map Rd1.d)) (e : xs[i]? = some x) : ∃ r a b, rs[i]? = some r ∧ x = .ref a ∧ Dp K H x r.d ∧ SqT K H a [.str r.t, .ref b, .int r.f] ∧ SqT K H b (r.v.map V.int) := by
  obtain ⟨d, e1, e2⟩ := dps_get h e
  rw [List.getElem?_map] at e1
  obtain ⟨r, e3, rfl⟩ := Option.map_eq_some_iff.mp e1
  obtain ⟨a, zs, rfl, ht, hd⟩ := dtup e2
  obtain ⟨z1, z2, z3, rfl, h1, h2, h3⟩ := dps3 hd
  obtain rfl := dstr h1
  obtain rfl := dint h3
  obtain ⟨b, ys, rfl, hb, hy⟩ := dtup h2
  obtain rfl := dps_ints hy
  exact ⟨r, a, b, e3, rfl, e2, ht, hb⟩
def cnt (ts : List Tb) : Nat := (ts.map fun t => t.rs.length).sum
theorem cnt_take {ts : List Tb} {i : Nat} {t : Tb} (h : ts[i]? = some t) : cnt (ts.take (i + 1)) = cnt (ts.take i) + t.rs.length := by
  unfold cnt
  rw [List.take_add_one, h, List.map_append, List.sum_append]
  rfl
theorem cnt_le (ts : List Tb) (i : Nat) : cnt (ts.take i) ≤ cnt ts := by
  unfold cnt
  have e := congrArg (fun l : List Tb => (l.map fun t => t.rs.length).sum) (List.take_append_drop i ts)
  simp only [List.map_append, List.sum_append] at e
  omega
def spCheckTables (K : PySem.W.Frag) : Sp := fun vs H Q _ => ∃ (d : Int) (v : V) (ts : List Tb), vs = [.int d, v] ∧ Dp K H v (.list (ts.map Tb.d)) ∧ ts.length ≤ 6 ∧ OkT d ts ∧ ∀ H', Same H H' → Q .non H'
theorem ok_check_tables {f : Addr} {fd : FuncData} (F : Fun K "check_tables" "check_tables" s_check_tables f fd) (T : Txt mg) (c_is_name : C8.Cal P w K mg base 1 "is_name" spIsName []) (c_is_read : C8.Cal P w K mg base 2 "is_read" (spIsRead K) []) : FnOk P w K mg base CX0 3 f fd ["dimensions", "tables"] (spCheckTables K) := by
  refine F.ok sc_check_tables (fun vs H Q E h => ?_) (fun cdv A outer s H vs Q E hr h => ?_)
  · obtain ⟨d, v, ts, rfl, _⟩ := h
    rfl
  · obtain ⟨d, v, ts, rfl, hv, hl6, O, q⟩ := h
    refine ⟨_, (pss_cons (ps_setLc (i := 2) (own := [("table", 3)]) (g := gName 3) (tt := tYes) (by rfl) sc_check_tables.nd rfl rfl (sw_true rfl rfl rfl (by decide +kernel)) (pi_list (pv 1)) (blkOk_by (N := ["dimensions", "tables", "names", "table", "many", "row", "name", "_", "reads", "read"]) (sc := defScope s_check_tables) (by decide +kernel)) (fun _ _ _ _ _ => (pg_name (i := 3) sc_check_tables.nd rfl (by first | exact Or.inl rfl | exact Or.inr rfl))) (fun _ _ _ _ _ => pts_nil) (fun _ _ _ _ _ => (pe_ix (r := rIxT K) ix_tup (pv 3) pe_int (fun _ _ => rfl))))
  (pss_cons (ps_set (i := 4) sc_check_tables.nd rfl (by first | exact Or.inl rfl | exact Or.inr rfl) pe_int)
  (pss_one (ps_for PassesOwn.never rfl (pi_enum (by rfl) T.b_enumerate (pa_cons (pv 1) pa_nil)) (pg_tup rfl (pgs_cons (pg_name (i := 5) sc_check_tables.nd rfl (by first | exact Or.inl rfl | exact Or.inr rfl)) (pgs_cons (pg_tup rfl (pgs_cons (pg_name (i := 6) sc_check_tables.nd rfl (by first | exact Or.inl rfl | exact Or.inr rfl)) (pgs_cons (pg_name (i := 7) sc_check_tables.nd rfl (by first | exact Or.inl rfl | exact Or.inr rfl)) (pgs_cons (pg_name (i := 8) sc_check_tables.nd rfl (by first | exact Or.inl rfl | exact Or.inr rfl)) pgs_nil)))) pgs_nil)))
    (pss_cons (ps_aug (i := 4) sc_check_tables.nd rfl (by first | exact Or.inl rfl | exact Or.inr rfl) (pe_callB call_len_seq (by rfl) T.b_len PySem.boot_len (pa_cons (pv 8) pa_nil)) ip_add)
    (pss_cons (ps_if (PW.pt (pw_or (pt_not (pt_val (C8.pe_c c_is_name hr (by decide) (by rfl) (pa_cons (pv 6) pa_nil)))) (pw_or (pt_cmpR op_in_seq (pv 6) (pe_slice sl_list (pv 2) po_none (po_some (pv 5))) (by rfl)) (pw_or1 (pt_cmpR op_gt (pv 4) (C8.pe_gc (by rfl) T.g_MOST_READS) (nomark _))))))
      (pss_one ps_never)
      pss_nil)
    (pss_one (ps_if (pt_not (pt_val (pe_callB (cr_all rfl) (by rfl) T.b_all (by decide +kernel) (pa_cons (pe_lc (own := [("read", 9)]) (g := gName 9) (tt := tYes) (by rfl) sc_check_tables.nd (pi_list (pv 8)) (blkOk_by (N := ["dimensions", "tables", "names", "table", "many", "row", "name", "_", "reads", "read"]) (sc := defScope s_check_tables) (by decide +kernel)) (fun _ _ _ _ _ => (pg_name (i := 9) sc_check_tables.nd rfl (by first | exact Or.inl rfl | exact Or.inr rfl))) (fun _ _ _ _ _ => pts_nil) (fun _ _ _ _ _ => (C8.pe_c c_is_read hr (by decide) (by rfl) (pa_cons (pv 9) (pa_cons (pv 0) pa_nil))))) pa_nil))))
      (pss_one ps_never)
      pss_nil)))))))), ?_⟩
    obtain ⟨a, xs, rfl, ha, hd⟩ := dlst hv
    have hxl : xs.length = ts.length := by rw [dps_len hd, List.length_map]
    -- names = [table[0] ..]
    refine ⟨_, rfl, a, rfl, ⟨_, ha⟩, fun D hD => lc_flat (walk_list (K := K) (a := a) (xs := xs)) (fun i => .str (nth (ts.map (·.n)) i)) (by omega) hD (fun H' sm => sql sm ha) (fun i H x H' y => yat_same y) ?_ ?_⟩
    · rintro i x H1 H2 hi sm ⟨rfl, hx⟩ R hR
      obtain ⟨t, b, l, ys, e1, rfl, g1, _, _⟩ := tb_at (dpsm sm _ _ hd) hx
      have en : nth (ts.map (·.n)) i = t.n := nth_of (by rw [List.getElem?_map, e1]; rfl)
      refine ⟨rfl, _, rfl, b, _, 0, _, rfl, rfl, g1, rfl, ?_⟩
      have r := hR H2 same_refl
      rw [en] at r
      exact r
    · intro H1 sm hD1
      have hD1 : H1 D = some (.lst ((ts.map (·.n)).map V.str)) := by
        rw [hD1, hxl, ← nths, List.length_map]
      -- many = 0; the loop
      refine ⟨_, rfl, a, xs, rfl, sql sm ha, for_it (walk_enum (K := K) (a := a) (xs := xs)) (fun i σ H2 => ∃ y5 y6 y7 y8, σ = [some (.int d), some (.ref a), some (.ref D), none, some (.int (cnt (ts.take i))), y5, y6, y7, y8, none] ∧ Same H1 H2)
        ⟨none, none, none, none, rfl, same_refl⟩ (fun i σ H2 _ ⟨_, _, _, _, _, s2⟩ => sql (same_tr sm s2) ha) ?_ ?_⟩
      · rintro i x σ H2 H3 hi ⟨y5, y6, y7, y8, rfl, s2⟩ ⟨Tp, z1, z2, rfl, hT, rfl, e1, e2⟩
        cases e1
        have s3 : Same H1 (upd H2 Tp (.tup [.int (i : Nat), z2])) := same_tr s2 (snew hT)
        obtain ⟨t, b, l, ys, f1, rfl, g1, g2, g3⟩ := tb_at (dpsm (same_tr sm s3) _ _ hd) e2
        have htm : t ∈ ts := List.mem_of_getElem? f1
        have hyl : ys.length = t.rs.length := by rw [dps_len g3, List.length_map]
        refine ⟨Tp, _, rfl, Or.inl (Or.inl upd_same), rfl, _, _, rfl, _, _, rfl, b, _, rfl, g1, rfl, _, _, rfl, _, _, rfl, _, _, rfl, rfl, rfl, ?_⟩
        -- many += len(reads)
        refine ⟨_, rfl, _, rfl, l, ys, rfl, Or.inl g2, _, _, rfl, rfl, ?_⟩
        have hc := cnt_take f1
        have hc2 := cnt_le ts (i + 1)
        have h12 : cnt ts ≤ 12 := O.few
        -- the first test
        refine ⟨.str t.n, rfl, t.n, rfl, name_len (O.names t htm), fun H4 s4 => ⟨_, rfl, ?_⟩⟩
        rw [O.names t htm]
        refine iteF ?_
        have hD4 : H4 D = some (.lst ((ts.map (·.n)).map V.str)) := s4 _ _ (s3 _ _ hD1)
        refine ⟨_, rfl, _, rfl, _, rfl, (i : Int), rfl, D, _, rfl, Or.inl (Or.inl hD4), fun p hp => ?_⟩
        have s5 : Same H4 (upd H4 p (.lst (cutV ((ts.map (·.n)).map V.str) none (some (i : Int))))) := snew hp
        rw [cut_to _ _ (by rw [List.length_map, List.length_map]; omega), ← List.map_take]
        refine ⟨p, _, rfl, Or.inl (Or.inl (Or.inl upd_same)), rfl, flat_strs _, false, ?_, iteF ?_⟩
        · rw [inV_no (notin_take O.nodup (by rw [List.getElem?_map, f1]; rfl))]
          rfl
        · refine ⟨_, rfl, _, 12, rfl, rfl, decide (12 < (cnt (ts.take i) : Int) + (ys.length : Int)), rfl, ?_⟩
          rw [decide_eq_false (by omega)]
          refine iteF ?_
          -- the second test
          have s6 : Same H1 (upd H4 p (.lst (((ts.map (·.n)).take i).map V.str))) := same_tr s3 (same_tr s4 (snew hp))
          refine ⟨_, rfl, l, rfl, ⟨ys, sql (same_tr s4 (snew hp)) g2⟩, fun D2 hD2 => lc_flat (walk_list (K := K) (a := l) (xs := ys)) (fun j => .bl true) (by omega) hD2 (fun H' sm' => sql sm' (sql (same_tr s4 (snew hp)) g2)) (fun i H x H' y => yat_same y) ?_ ?_⟩
          · rintro j x H5 H6 hj sm5 ⟨rfl, hx⟩ R hR
            obtain ⟨r, ra, rb, e3, rfl, e4, _, _⟩ := rd_at (dpsm sm5 _ _ (dpsm (same_tr s4 (snew hp)) _ _ g3)) hx
            have hro := O.reads t htm r (List.mem_of_getElem? e3)
            refine ⟨rfl, _, rfl, _, rfl, .ref ra, r, d, rfl, e4, read_len hro, fun H7 s7 => ?_⟩
            rw [hro]
            exact hR H7 s7
          · intro H5 sm5 hD5
            refine ⟨D2, (List.range ys.length).map fun _ => true, rfl, Or.inl (Or.inl ?_), ⟨_, rfl, ?_⟩⟩
            · rw [hD5, List.map_map]
              rfl
            · have e : ((List.range ys.length).map fun _ => true).all id = true := by
                rw [List.all_map, List.all_eq_true]
                intro _ _
                rfl
              rw [e]
              refine iteF ?_
              refine ⟨some (.int (i : Int)), some (.str t.n), some (.int t.c), some (.ref l), ?_, same_tr s6 sm5⟩
              rw [hc]
              have ec : (cnt (ts.take i) : Int) + (ys.length : Int) = ((cnt (ts.take i) + t.rs.length : Nat) : Int) := by omega
              rw [← ec]
              rfl
      · rintro σ H2 ⟨_, _, _, _, rfl, s2⟩
        exact q H2 (same_tr sm s2)
theorem dict_flat_any : True := True.intro
def spCheckRead (K : PySem.W.Frag) : Sp := fun vs H Q _ => ∃ (d : Int) (v : V) (ts : List Tb), vs = [v] ∧ Dp K H v (.list (ts.map Tb.d)) ∧ ts.length ≤ 6 ∧ OkT d ts ∧ ∀ H', Same H H' → Q .non H'
theorem few_reads {d : Int} {ts : List Tb} (O : OkT d ts) {t : Tb} (h : t ∈ ts) : t.rs.length ≤ 12 := by
  obtain ⟨i, hi⟩ := List.mem_iff_getElem?.mp h
  have h1 := cnt_take hi
  have h2 := cnt_le ts (i + 1)
  have h3 : cnt ts ≤ 12 := O.few
  omega
theorem ok_check_read {f : Addr} {fd : FuncData} (F : Fun K "check_tables_that_are_read" "check_tables_that_are_read" s_check_tables_that_are_read f fd) (T : Txt mg) : FnOk P w K mg base CX0 3 f fd ["tables"] (spCheckRead K) := by
  refine F.ok sc_check_tables_that_are_read (fun vs H Q E h => ?_) (fun cdv A outer s H vs Q E hr h => ?_)
  · obtain ⟨d, v, ts, rfl, _⟩ := h
    rfl
  · obtain ⟨d, v, ts, rfl, hv, hl6, O, q⟩ := h
    refine ⟨_, (pss_cons (ps_set (i := 1) sc_check_tables_that_are_read.nd rfl (by first | exact Or.inl rfl | exact Or.inr rfl) (pe_lc (own := [("table", 2)]) (g := gName 2) (tt := tYes) (by rfl) sc_check_tables_that_are_read.nd (pi_list (pv 0)) (blkOk_by (N := ["tables", "names", "table", "row", "read"]) (sc := defScope s_check_tables_that_are_read) (by decide +kernel)) (fun _ _ _ _ _ => (pg_name (i := 2) sc_check_tables_that_are_read.nd rfl (by first | exact Or.inl rfl | exact Or.inr rfl))) (fun _ _ _ _ _ => pts_nil) (fun _ _ _ _ _ => (pe_ix (r := rIxT K) ix_tup (pv 2) pe_int (fun _ _ => rfl)))))
  (pss_one (ps_for PassesOwn.never rfl (pi_enum (by rfl) T.b_enumerate (pa_cons (pv 0) pa_nil)) (pg_tup rfl (pgs_cons (pg_name (i := 3) sc_check_tables_that_are_read.nd rfl (by first | exact Or.inl rfl | exact Or.inr rfl)) (pgs_cons (pg_name (i := 2) sc_check_tables_that_are_read.nd rfl (by first | exact Or.inl rfl | exact Or.inr rfl)) pgs_nil)))
    (pss_one (ps_if (pt_not (pt_val (pe_callB (cr_all rfl) (by rfl) T.b_all (by decide +kernel) (pa_cons (pe_lc (own := [("read", 4)]) (g := gName 4) (tt := tYes) (by rfl) sc_check_tables_that_are_read.nd (pi_list (pe_ix ix_tup (pv 2) pe_int (fun _ _ => rfl))) (blkOk_by (N := ["tables", "names", "table", "row", "read"]) (sc := defScope s_check_tables_that_are_read) (by decide +kernel)) (fun _ _ _ _ _ => (pg_name (i := 4) sc_check_tables_that_are_read.nd rfl (by first | exact Or.inl rfl | exact Or.inr rfl))) (fun _ _ _ _ _ => pts_nil) (fun _ _ _ _ _ => (pe_cmpR (r := rIn K false) op_in_seq (pe_ix (r := rIxT K) ix_tup (pv 4) pe_int (fun _ _ => rfl)) (pv 1) (by rfl)))) pa_nil))))
      (pss_one ps_never)
      pss_nil))))), ?_⟩
    obtain ⟨a, xs, rfl, ha, hd⟩ := dlst hv
    have hxl : xs.length = ts.length := by rw [dps_len hd, List.length_map]
    refine ⟨_, rfl, a, rfl, ⟨_, ha⟩, fun D hD => lc_flat (walk_list (K := K) (a := a) (xs := xs)) (fun i => .str (nth (ts.map (·.n)) i)) (by omega) hD (fun H' sm => sql sm ha) (fun i H x H' y => yat_same y) ?_ ?_⟩
    · rintro i x H1 H2 hi sm ⟨rfl, hx⟩ R hR
      obtain ⟨t, b, l, ys, e1, rfl, g1, _, _⟩ := tb_at (dpsm sm _ _ hd) hx
      have en : nth (ts.map (·.n)) i = t.n := nth_of (by rw [List.getElem?_map, e1]; rfl)
      refine ⟨rfl, _, rfl, b, _, 0, _, rfl, rfl, g1, rfl, ?_⟩
      have r := hR H2 same_refl
      rw [en] at r
      exact r
    · intro H1 sm hD1
      have hD1 : H1 D = some (.lst ((ts.map (·.n)).map V.str)) := by
        rw [hD1, hxl, ← nths, List.length_map]
      refine ⟨_, rfl, a, xs, rfl, sql sm ha, for_it (walk_enum (K := K) (a := a) (xs := xs)) (fun i σ H2 => ∃ y2 y3, σ = [some (.ref a), some (.ref D), y2, y3, none] ∧ Same H1 H2)
        ⟨none, none, rfl, same_refl⟩ (fun i σ H2 _ ⟨_, _, _, s2⟩ => sql (same_tr sm s2) ha) ?_ ?_⟩
      · rintro i x σ H2 H3 hi ⟨y2, y3, rfl, s2⟩ ⟨Tp, z1, z2, rfl, hT, rfl, e1, e2⟩
        cases e1
        have s3 : Same H1 (upd H2 Tp (.tup [.int (i : Nat), z2])) := same_tr s2 (snew hT)
        obtain ⟨t, b, l, ys, f1, rfl, g1, g2, g3⟩ := tb_at (dpsm (same_tr sm s3) _ _ hd) e2
        have htm : t ∈ ts := List.mem_of_getElem? f1
        have hyl : ys.length = t.rs.length := by rw [dps_len g3, List.length_map]
        have h12 := few_reads O htm
        refine ⟨Tp, _, rfl, Or.inl (Or.inl upd_same), rfl, _, _, rfl, _, _, rfl, rfl, ?_⟩
        refine ⟨_, rfl, b, _, 2, _, rfl, rfl, g1, rfl, l, rfl, ⟨ys, g2⟩, fun D2 hD2 => lc_flat (walk_list (K := K) (a := l) (xs := ys)) (fun j => .bl true) (by omega) hD2 (fun H' sm' => sql sm' g2) (fun i H x H' y => yat_same y) ?_ ?_⟩
        · rintro j x H5 H6 hj sm5 ⟨rfl, hx⟩ R hR
          obtain ⟨r, ra, rb, e3, rfl, e4, g5, _⟩ := rd_at (dpsm sm5 _ _ g3) hx
          have hm := O.here t htm r (List.mem_of_getElem? e3)
          refine ⟨rfl, _, rfl, ra, _, 0, _, rfl, rfl, g5, rfl, _, rfl, D, _, rfl, Or.inl (Or.inl (Or.inl (sm5 _ _ (s3 _ _ hD1)))), rfl, flat_strs _, ?_⟩
          rw [inV_str hm]
          exact hR H6 same_refl
        · intro H5 sm5 hD5
          refine ⟨D2, (List.range ys.length).map fun _ => true, rfl, Or.inl (Or.inl ?_), ⟨_, rfl, ?_⟩⟩
          · rw [hD5, List.map_map]
            rfl
          · have e : ((List.range ys.length).map fun _ => true).all id = true := by
              rw [List.all_map, List.all_eq_true]
              intro _ _
              rfl
            rw [e]
            refine iteF ?_
            exact ⟨some (.ref b), some (.int (i : Int)), rfl, same_tr s3 sm5⟩
      · rintro σ H2 ⟨_, _, rfl, s2⟩
        exact q H2 (same_tr sm s2)
def spCheckSystem (K : PySem.W.Frag) : Sp := fun vs H Q _ => ∃ (d m : Int) (v : V) (ts : List Tb), vs = [.int d, v, .int m] ∧ 1 ≤ d ∧ d ≤ 3 ∧ 2 ≤ m ∧ Dp K H v (.list (ts.map Tb.d)) ∧ 1 ≤ ts.length ∧ ts.length ≤ 6 ∧ OkT d ts ∧ ∀ H', Same H H' → Q .non H'
theorem ok_check_system {f : Addr} {fd : FuncData} (F : Fun K "check_system" "check_system" s_check_system f fd) (T : Txt mg) (c_check_tables : C8.Cal P w K mg base 3 "check_tables" (spCheckTables K) []) (c_check_tables_that_are_read : C8.Cal P w K mg base 3 "check_tables_that_are_read" (spCheckRead K) []) :
    FnOk P w K mg base CX0 4 f fd ["dimensions", "tables", "modulus"] (spCheckSystem K) := by
  refine F.ok sc_check_system (fun vs H Q E h => ?_) (fun cdv A outer s H vs Q E hr h => ?_)
  · obtain ⟨d, m, v, ts, rfl, _⟩ := h
    rfl
  · obtain ⟨d, m, v, ts, rfl, hd1, hd3, hm, hv, hl1, hl6, O, q⟩ := h
    refine ⟨_, (pss_cons (ps_if (pt_not (pt_chain op_le op_le pe_int (pv 0) (C8.pe_gc (by rfl) T.g_MOST_DIMENSIONS)))
    (pss_one ps_never)
    pss_nil)
  (pss_cons (ps_if (pt_not (pt_chain op_le op_le pe_int (pe_callB call_len_seq (by rfl) T.b_len PySem.boot_len (pa_cons (pv 1) pa_nil)) (C8.pe_gc (by rfl) T.g_MOST_TABLES)))
    (pss_one ps_never)
    pss_nil)
  (pss_cons (ps_expr (C8.pe_c c_check_tables hr (by decide) (by rfl) (pa_cons (pv 0) (pa_cons (pv 1) pa_nil))))
  (pss_cons (ps_expr (C8.pe_c c_check_tables_that_are_read hr (by decide) (by rfl) (pa_cons (pv 1) pa_nil)))
  (pss_one (ps_if (pt_cmpR op_lt (pv 2) pe_int (nomark _))
    (pss_one ps_never)
    pss_nil)))))), ?_⟩
    obtain ⟨a, xs, rfl, ha, hd⟩ := dlst hv
    have hxl : xs.length = ts.length := by rw [dps_len hd, List.length_map]
    refine ⟨_, rfl, 1, d, rfl, rfl, decide (1 ≤ d), rfl, ?_⟩
    rw [decide_eq_true hd1]
    refine iteT ⟨d, 3, rfl, rfl, decide (d ≤ 3), rfl, ?_⟩
    rw [decide_eq_true hd3]
    refine iteF ?_
    refine ⟨_, rfl, a, xs, rfl, Or.inl ha, 1, _, rfl, rfl, decide (1 ≤ (xs.length : Int)), rfl, ?_⟩
    rw [decide_eq_true (by omega)]
    refine iteT ⟨_, 6, rfl, rfl, decide ((xs.length : Int) ≤ 6), rfl, ?_⟩
    rw [decide_eq_true (by omega)]
    refine iteF ?_
    refine ⟨_, rfl, _, rfl, d, .ref a, ts, rfl, hv, hl6, O, fun H1 s1 => ?_⟩
    refine ⟨_, rfl, d, .ref a, ts, rfl, dpm s1 _ _ hv, hl6, O, fun H2 s2 => ?_⟩
    refine ⟨_, rfl, m, 2, rfl, rfl, decide (m < 2), rfl, ?_⟩
    rw [decide_eq_false (by omega)]
    exact iteF (q H2 (same_tr s1 s2))
/-- a def with a code object that is known -/
structure FunC (K : PySem.W.Frag) (x qual : Str) (st : Stmt) (f : Addr) (fd : FuncData) (c : Addr) : Prop where
  ex : ∃ (oc : Value) (od : Option Addr) (dV kV doc pm : Value) (an : Option Addr) (ct : Value) (osl : Array (Option Value)),
    fd = PySem.W.fnOf x qual (defArgs st) (defBody st) (defScope st) dV kV doc pm an (.ref c) ct ∧ K.lookup f = some ⟨oc, od, .func fd, osl⟩ ∧ PySem.W.codeIn K (.ref c) qual = true
theorem FunC.ok {x qual : Str} {st : Stmt} {f c : Addr} {fd : FuncData} {N ps : List Str} {k : Nat} {sp : Sp} (F : FunC K x qual st f fd c) (S : FnScope N ps (defScope st)) (len : ∀ vs H Q E, sp vs H Q E → vs.length = ps.length)
    (hbody : ∀ (A : Around) (outer : List Env) (s : Shared) (H : Hp) (vs : List V) (Q : VK) (E : XK), Room k (A.deeper (envOfC qual (defScope st) s.heap.objs.size f (.ref c))) → sp vs H Q E →
      ∃ t, PSs (cxOf CX0 P w K mg base N qual (defScope st) f (.ref c) A outer s H E).nox (defBody st) t ∧ t { nx := fun _ H' => Q .non H', rt := Q } (start N vs) H) : FnOk P w K mg base CX0 (k + 1) f fd ps sp := by
  obtain ⟨oc, od, dV, kV, doc, pm, an, ct, osl, rfl, lk, hcd⟩ := F.ex
  refine fn_of lk hcd S len fun A outer s H vs Q E hr hsp => ?_
  obtain ⟨t, h, q⟩ := hbody A outer s H vs Q E hr hsp
  exact ⟨t, h.nox, q⟩
def srt (ts : List Tb) : List Tb := ts.mergeSort (leK Tb.n)
/-- what a system may be made of -/
structure OkSys (d m : Int) (ts : List Tb) : Prop where
  d1 : 1 ≤ d
  d3 : d ≤ 3
  m2 : 2 ≤ m
  l1 : 1 ≤ ts.length
  l6 : ts.length ≤ 6
  ok : OkT d ts
/-- all but the tables of code objects and one object stay -/
def ExtB (s : Addr) (H H' : Hp) : Prop := ∀ b o, H b = some o → b ≠ s → (∀ ps, o ≠ .tbl ps) → H' b = some o
def spInit (K : PySem.W.Frag) (C : Addr) (TT : List (Addr × Str)) : Sp := fun vs H Q _ => ∃ (s dx : Addr) (d m : Int) (v : V) (ts : List Tb), vs = [.ref s, .int d, v, .int m] ∧ H s = some (.ins C dx []) ∧ LamX.Tabs TT H ∧ OkSys d m ts ∧ Dp K H v (.list (ts.map Tb.d)) ∧
  ∀ H', ExtB s H H' → LamX.Tabs TT H' → SysAt K C H' s d m (srt ts) → Q .non H'
theorem ok_init {f C c Pt : Addr} {fd : FuncData} {TT : List (Addr × Str)} (F : FunC K "__init__" "System.__init__" s_System_init f fd c) (T : Txt mg) (TC : TxtC K mg C) (c_check_system : C8.Cal P w K mg base 4 "check_system" (spCheckSystem K) [])
    (TBc : LamX.TabB base mg c Pt) (hmT : (Pt, ("System.__init__.<locals>.<lambda>" : Str)) ∈ TT) (huT : ∀ p ∈ TT, p.1 = Pt → p.2 = ("System.__init__.<locals>.<lambda>" : Str)) : FnOk P w K mg base CX0 5 f fd ["self", "dimensions", "tables", "modulus"] (spInit K C TT) := by
  refine F.ok sc_System_init (fun vs H Q E h => ?_) (fun A outer sh H vs Q E hr h => ?_)
  · obtain ⟨s, dx, d, m, v, ts, rfl, _⟩ := h
    rfl
  · obtain ⟨s, dx, d, m, v, ts, rfl, hs, hT, O, hv, q⟩ := h
    have hu := hu_of hr
    have hcode : (cxOf CX0 P w K mg base ["self", "dimensions", "tables", "modulus", "rows", "name", "constant", "reads"] "System.__init__" (defScope s_System_init) f (.ref c) A outer sh H E).nox.env.code = .ref c := rfl
    refine ⟨_, (pss_cons (ps_expr (C8.pe_c c_check_system hr (by decide) (by rfl) (pa_cons (pv 1) (pa_cons (pv 2) (pa_cons (pv 3) pa_nil)))))
  (pss_cons (ps_fld (pv 0) (pv 1) rfl)
  (pss_cons (ps_fld (pv 0) (pv 3) rfl)
  (pss_cons (ps_set (i := 4) sc_System_init.nd rfl (by first | exact Or.inl rfl | exact Or.inr rfl) (pe_sortKey Tb.n (a := "table") (by rfl) T.b_sorted (pv 2) hr TBc hcode hmT huT rfl ⟨rfl, rfl, rfl, rfl, by decide +kernel, by decide +kernel⟩ (by decide) (fun _ _ _ _ _ _ => rfl)))
  (pss_one (ps_fld (pv 0) (pe_dc (own := [("name", 5), ("constant", 6), ("reads", 7)]) (g := gTup K 3 (gCons (gName 5) (gCons (gName 6) (gCons (gName 7) gNil)))) (tt := tYes) (by rfl) sc_System_init.nd (pi_list (pv 4)) (blkOk_by (N := ["self", "dimensions", "tables", "modulus", "rows", "name", "constant", "reads"]) (sc := defScope s_System_init) (by decide +kernel)) (fun _ _ _ _ _ => (pg_tup rfl (pgs_cons (pg_name (i := 5) sc_System_init.nd rfl (by first | exact Or.inl rfl | exact Or.inr rfl)) (pgs_cons (pg_name (i := 6) sc_System_init.nd rfl (by first | exact Or.inl rfl | exact Or.inr rfl)) (pgs_cons (pg_name (i := 7) sc_System_init.nd rfl (by first | exact Or.inl rfl | exact Or.inr rfl)) pgs_nil))))) (fun _ _ _ _ _ => pts_nil) (fun _ _ _ _ _ => (pv 5)) (fun _ _ _ _ _ => (pe_tup (pa_cons (pv 6) (pa_cons (pe_callTy (r := rTupS K) call_tuple_of (by rfl) T.b_tuple (by decide +kernel) (pa_cons (pv 7) pa_nil)) pa_nil))))) rfl)))))), ?_⟩
    -- check_system(..)
    refine ⟨_, rfl, _, rfl, _, rfl, d, m, v, ts, rfl, O.d1, O.d3, O.m2, hv, O.l1, O.l6, O.ok, fun H1 s1 => ?_⟩
    have hs1 := s1 _ _ hs
    have hT1 := hT.ext s1
    -- self._dimensions, self._modulus
    refine ⟨_, rfl, _, rfl, s, C, dx, _, rfl, hs1, TC.cl, TC.nD, (by show 0 < 1000; decide), ?_⟩
    have hT2 := tabs_ins (o := .ins C dx (putF "_dimensions" (.int d) [])) hT1 hs1
    have d2 : SD H (upd H1 s (.ins C dx (putF "_dimensions" (.int d) []))) := SD.upd (.of s1) hs1 rfl
    have e2 : ExtB s H (upd H1 s (.ins C dx (putF "_dimensions" (.int d) []))) := fun b o h nb _ => by
      rw [upd_ne nb]
      exact s1 b o h
    have hs2 : (upd H1 s (.ins C dx (putF "_dimensions" (.int d) []))) s = some (.ins C dx (putF "_dimensions" (.int d) [])) := upd_same
    generalize upd H1 s (.ins C dx (putF "_dimensions" (.int d) [])) = H2 at hT2 d2 e2 hs2 ⊢
    refine ⟨_, rfl, _, rfl, s, C, dx, _, rfl, hs2, TC.cl, TC.nM, (by show 1 < 1000; decide), ?_⟩
    have hT3 := tabs_ins (o := .ins C dx (putF "_modulus" (.int m) (putF "_dimensions" (.int d) []))) hT2 hs2
    have d3 : SD H (upd H2 s (.ins C dx (putF "_modulus" (.int m) (putF "_dimensions" (.int d) [])))) := SD.upd d2 hs2 rfl
    have e3 : ExtB s H (upd H2 s (.ins C dx (putF "_modulus" (.int m) (putF "_dimensions" (.int d) [])))) := fun b o h nb nt => by
      rw [upd_ne nb]
      exact e2 b o h nb nt
    have hs3 : (upd H2 s (.ins C dx (putF "_modulus" (.int m) (putF "_dimensions" (.int d) [])))) s = some (.ins C dx (putF "_modulus" (.int m) (putF "_dimensions" (.int d) []))) := upd_same
    generalize upd H2 s (.ins C dx (putF "_modulus" (.int m) (putF "_dimensions" (.int d) []))) = H3 at hT3 d3 e3 hs3 ⊢
    -- rows = sorted(..)
    obtain ⟨a, xs, rfl, ha, hd⟩ := dlst hv
    have hxl : xs.length = ts.length := by rw [dps_len hd, List.length_map]
    have hfst : (xs.zip ts).map Prod.fst = xs := by rw [List.map_fst_zip]; omega
    have hsnd : (xs.zip ts).map Prod.snd = ts := by rw [List.map_snd_zip]; omega
    have hbs : ∀ y ∈ xs.zip ts, Dp K H3 y.1 y.2.d := fun y hy => by
      obtain ⟨i, hi⟩ := List.mem_iff_getElem?.mp hy
      obtain ⟨h1, h2⟩ := List.getElem?_zip_eq_some.mp hi
      obtain ⟨t, _, _, _, e1, _⟩ := tb_at hd h1
      obtain ⟨dd, f1, f2⟩ := dps_get hd h1
      rw [List.getElem?_map, h2] at f1
      cases f1
      exact dpd d3 _ _ f2
    refine ⟨_, rfl, a, xs.zip ts, rfl, (by rw [hfst]; exact sqld d3 ha), hT3, fun y hy => ?_, fun H4 x4 hT4 p hp => ?_⟩
    · obtain ⟨b, zs, e1, ht, hz⟩ := dtup (hbs y hy)
      obtain ⟨z1, z2, z3, rfl, g1, g2, g3⟩ := dps3 hz
      obtain rfl := dstr g1
      exact ⟨b, [z2, z3], e1, ht⟩
    · have hsrt : ((xs.zip ts).mergeSort (leK fun y => y.2.n)).map Prod.snd = srt ts := by
        rw [show (leK fun y : V × Tb => y.2.n) = fun a b => leK Tb.n a.2 b.2 from rfl]
        rw [List.map_mergeSort (r := fun a b : V × Tb => leK Tb.n a.2 b.2) (s := leK Tb.n) (f := Prod.snd) (fun _ _ _ _ => rfl), hsnd]
        rfl
      have hmem : ∀ y ∈ (xs.zip ts).mergeSort (leK fun y => y.2.n), Dp K H4 y.1 y.2.d := fun y hy => dpd (.ext x4) _ _ (hbs y (List.mem_mergeSort.mp hy))
      generalize hL : (xs.zip ts).mergeSort (leK fun y => y.2.n) = bs at hsrt hmem ⊢
      have hbl : bs.length = ts.length := by rw [← hL, List.length_mergeSort, List.length_zip]; omega
      have hs4 : H4 s = some (.ins C dx (putF "_modulus" (.int m) (putF "_dimensions" (.int d) []))) := x4 _ _ hs3 fun ps z => by cases z
      have s5 : Same H4 (upd H4 p (.lst (bs.map Prod.fst))) := snew hp
      have hnd : (bs.map fun y => y.2.n).Nodup := by
        have e : (bs.map fun y => y.2.n) = (srt ts).map (·.n) := by
          rw [← hsrt, List.map_map]
          rfl
        rw [e]
        exact ((List.mergeSort_perm ts (leK Tb.n)).map (·.n)).nodup_iff.mpr O.ok.nodup
      -- self._tables = {..}
      refine ⟨_, rfl, p, rfl, ⟨_, Or.inl (Or.inl upd_same)⟩, fun D hD => dc_it (walk_list (K := K) (a := p) (xs := bs.map Prod.fst)) (fun i H' => ∃ (B : Hp) (kvs : List (Key × V)), Same (upd H4 p (.lst (bs.map Prod.fst))) B ∧ B D = none ∧ Same B H' ∧ H' D = some (.dK kvs) ∧ KvAt K B kvs ((srt ts).take i))
        ⟨_, [], same_refl, hD, snew hD, upd_same, .nil⟩ (fun i H' _ ⟨B, kvs, b1, b2, b3, _⟩ => sql b3 (sql b1 (Or.inl (Or.inl upd_same)))) ?_ ?_⟩
      · rintro i x _ Hi hi ⟨B, kvs, b1, b2, b3, b4, b5⟩ ⟨rfl, hx⟩
        rw [List.getElem?_map] at hx
        obtain ⟨y, hy, rfl⟩ := Option.map_eq_some_iff.mp hx
        have hyd := dpm b1 _ _ (dpm s5 _ _ (hmem y (List.mem_of_getElem? hy)))
        obtain ⟨b, zs, e1, ht, hz⟩ := dtup hyd
        obtain ⟨z1, z2, z3, rfl, g1, g2, g3⟩ := dps3 hz
        obtain rfl := dstr g1
        obtain rfl := dint g2
        obtain ⟨l, ys, rfl, hl, hys⟩ := dlst g3
        have hsi : (srt ts)[i]? = some y.2 := by
          rw [← hsrt, List.getElem?_map, hy]
          rfl
        refine ⟨b, _, e1, sqt b3 ht, rfl, _, _, rfl, _, _, rfl, _, _, rfl, rfl, rfl, ?_⟩
        refine ⟨_, rfl, _, rfl, _, rfl, l, ys, rfl, Or.inl ⟨sql b3 hl, fun q1 hq1 => ?_⟩⟩
        refine ⟨(by show 2 ≤ sizeLine; decide), fun q2 hq2 => ?_⟩
        have nq1 : q1 ≠ D := fun z => by
          rw [z, b4] at hq1
          cases hq1
        have nq2 : q2 ≠ D := fun z => by
          rw [z, upd_ne nq1.symm, b4] at hq2
          cases hq2
        have bq1 : B q1 = none := free_of b3 hq1
        have c1 : Same (upd B q1 (.tup ys)) (upd Hi q1 (.tup ys)) := fun c o h => by
          by_cases hc : c = q1
          · rw [hc, upd_same] at h ⊢
            exact h
          · rw [upd_ne hc] at h ⊢
            exact b3 c o h
        have bq2 : (upd B q1 (.tup ys)) q2 = none := free_of c1 hq2
        have c2 : Same (upd (upd B q1 (.tup ys)) q2 (.tup [.int y.2.c, .ref q1])) (upd (upd Hi q1 (.tup ys)) q2 (.tup [.int y.2.c, .ref q1])) := fun c o h => by
          by_cases hc : c = q2
          · rw [hc, upd_same] at h ⊢
            exact h
          · rw [upd_ne hc] at h ⊢
            exact c1 c o h
        have bb : Same B (upd (upd B q1 (.tup ys)) q2 (.tup [.int y.2.c, .ref q1])) := same_tr (snew bq1) (snew bq2)
        have bD : (upd (upd B q1 (.tup ys)) q2 (.tup [.int y.2.c, .ref q1])) D = none := by
          rw [upd_ne nq2.symm, upd_ne nq1.symm]
          exact b2
        have hDv : (upd (upd Hi q1 (.tup ys)) q2 (.tup [.int y.2.c, .ref q1])) D = some (.dK kvs) := by
          rw [upd_ne nq2.symm, upd_ne nq1.symm]
          exact b4
        have hkl : kvs.length ≤ 6 := by
          rw [b5.len, List.length_take]
          have := O.l6
          have : (srt ts).length = ts.length := List.length_mergeSort _
          omega
        refine ⟨kvs, Sum.inr y.2.n, rfl, hDv, small1000 (by omega), ?_⟩
        have hno : valV kvs (Sum.inr y.2.n) = none := b5.noVal (by
          have e : ((srt ts).take i).map (·.n) = (bs.map fun y => y.2.n).take i := by
            rw [← hsrt, List.map_take, List.map_map]
            rfl
          rw [e]
          exact notin_take hnd (by rw [List.getElem?_map, hy]; rfl))
        refine ⟨_, kvs ++ [(Sum.inr y.2.n, .ref q2)], same_tr b1 bb, bD, ?_, ?_, ?_⟩
        · intro c o h
          have hc : c ≠ D := fun z => by
            rw [z, bD] at h
            cases h
          rw [upd_ne hc]
          exact c2 c o h
        · rw [upd_same, putK_new _ hno]
        · rw [List.take_add_one, hsi]
          refine KvAt.app (b5.mono bb) (.cons ⟨rfl, ?_⟩ .nil)
          refine .tup (Or.inl (Or.inl upd_same)) (.cons (.int _) (.cons (.tup (Or.inl (Or.inl ?_)) (dpsm bb _ _ hys)) .nil))
          rw [upd_ne (ne_of_none upd_same bq2)]
          exact upd_same
      · rintro Hf ⟨B, kvs, b1, b2, b3, b4, b5⟩
        have hlen : (bs.map Prod.fst).length = (srt ts).length := by rw [← hsrt, List.length_map, List.length_map]
        rw [hlen, List.take_length] at b5
        have sf : Same H4 Hf := same_tr s5 (same_tr b1 b3)
        have hsf := sf _ _ hs4
        refine ⟨_, rfl, s, C, dx, _, rfl, hsf, TC.cl, TC.nT, (by show 2 < 1000; decide), ?_⟩
        refine q _ (fun b o h nb nt => ?_) (tabs_ins (hT4.ext sf) hsf) ⟨dx, D, kvs, upd_same, ?_, ?_⟩
        · rw [upd_ne nb]
          exact sf _ _ (x4 _ _ (e3 b o h nb nt) nt)
        · rw [upd_ne fun z => by
            rw [z, hsf] at b4
            cases b4]
          exact b4
        · exact b5.monoD (SD.upd (.of b3) hsf rfl)
end
end Fr

namespace Fr
open PySem PySem.Spec PyProof.Rows L2
abbrev s_Lrng : Stmt := topS 21
theorem sc_Lrng : FnScope ["_law_script", "_law_digits", "_law_seed", "_law_number", "_law_far"] ["_law_script"] (defScope s_Lrng) := ⟨rfl, rfl, rfl, by decide +kernel, rfl, by decide +kernel, by decide +kernel⟩
-- slots: 0 _law_script, 1 _law_digits, 2 _law_seed, 3 _law_number, 4 _law_far
abbrev s_Lmixed : Stmt := topS 23
theorem sc_Lmixed : FnScope ["_law_rng_here", "_law_some", "_law_left", "_law_turned"] ["_law_rng_here", "_law_some"] (defScope s_Lmixed) := ⟨rfl, rfl, rfl, by decide +kernel, rfl, by decide +kernel, by decide +kernel⟩
-- slots: 0 _law_rng_here, 1 _law_some, 2 _law_left, 3 _law_turned
abbrev s_Lvector : Stmt := topS 24
theorem sc_Lvector : FnScope ["_law_rng_here", "_law_dims", "_law_wide", "_law_some", "_law_axis"] ["_law_rng_here", "_law_dims", "_law_wide"] (defScope s_Lvector) := ⟨rfl, rfl, rfl, by decide +kernel, rfl, by decide +kernel, by decide +kernel⟩
-- slots: 0 _law_rng_here, 1 _law_dims, 2 _law_wide, 3 _law_some, 4 _law_axis
abbrev s_Ldraw : Stmt := topS 22
theorem sc_Ldraw : FnScope ["_law_rng_here", "_law_limit", "_law_digit", "_law_blend"] ["_law_rng_here", "_law_limit"] (defScope s_Ldraw) := ⟨rfl, rfl, rfl, by decide +kernel, rfl, by decide +kernel, by decide +kernel⟩
-- slots: 0 _law_rng_here, 1 _law_limit, 2 _law_digit, 3 _law_blend
/-- the state of the draws: digits, seed, counter -/
structure RngN (a b c : Int) (m : Nat) : Prop where
  a0 : 0 ≤ a
  a1 : a.natAbs < 2 ^ 20000
  b0 : 0 ≤ b
  b1 : b < 2 ^ 62
  c0 : 0 ≤ c
  c1 : c ≤ m
def RngOk (H : Hp) (r : Addr) (m : Nat) : Prop := ∃ a b c : Int, H r = some (.lst [.int a, .int b, .int c]) ∧ RngN a b c m
theorem RngN.mono {a b c : Int} {m m' : Nat} (h : RngN a b c m) (e : m ≤ m') : RngN a b c m' := ⟨h.a0, h.a1, h.b0, h.b1, h.c0, by have := h.c1; omega⟩
theorem RngOk.mono {H : Hp} {r : Addr} {m m' : Nat} (h : RngOk H r m) (e : m ≤ m') : RngOk H r m' := by
  obtain ⟨a, b, c, h1, h2⟩ := h
  exact ⟨a, b, c, h1, h2.mono e⟩
theorem atI_in {α : Type} {xs : List α} {i : Int} (h0 : 0 ≤ i) (h1 : i < xs.length) : ∃ v, atI xs i = some v ∧ v ∈ xs ∧ xs[i.toNat]? = some v := by
  have h2 : i.toNat < xs.length := by omega
  have e := List.getElem?_eq_getElem h2
  refine ⟨xs[i.toNat], ?_, List.getElem_mem h2, e⟩
  have := atI_nat e
  rw [Int.toNat_of_nonneg h0] at this
  exact this
theorem cut_take (xs : List V) (i : Nat) : cutV xs none (some (i : Int)) = xs.take i := by
  unfold cutV
  rw [show HT.sIx xs.length xs.length (some (i : Int)) = min i xs.length from HT.sIx_nat xs.length xs.length i, HT.sIx_none, List.drop_zero, Nat.sub_zero]
  exact (List.take_eq_take_min).symm
theorem cut_all (xs : List V) (i : Nat) (h : xs.length ≤ i) : cutV xs none (some (i : Int)) = xs := by
  unfold cutV
  rw [show HT.sIx xs.length xs.length (some (i : Int)) = min i xs.length from HT.sIx_nat xs.length xs.length i, HT.sIx_none, List.drop_zero, Nat.sub_zero, Nat.min_eq_right h, List.take_length]
theorem p1060 : ((10 : Int) ^ ((60 : Int).toNat)).natAbs < 2 ^ 200 := by decide +kernel
theorem p1060' : ((10 : Int) ^ ((60 : Int).toNat)) < 2 ^ 200 := by decide +kernel
theorem pos1 : (0 : Int) < 2305843009213693921 := by decide
theorem pos2 : (0 : Int) < 2305843009213693951 := by decide
theorem p1060p : 0 < ((10 : Int) ^ ((60 : Int).toNat)) := by decide +kernel
section
variable {P : Program} {w : World} {K : PySem.W.Frag} {mg : Str → Option Value} {base : Heap}
def spRng (K : PySem.W.Frag) : Sp := fun vs H Q _ => ∃ (a : Addr) (ns : List Int), vs = [.ref a] ∧ SqL K H a (ns.map V.int) ∧ ns.length ≤ 63 ∧ ∀ p H', H p = none → Same H H' → RngOk H' p 0 → Q (.ref p) H'
theorem dig_step {dg f t : Int} {i : Nat} (h0 : 0 ≤ dg) (h1 : dg < 2 ^ (200 * i)) (hp : 0 < t) (ht : t < 2 ^ 200) : 0 ≤ dg * t + f % t ∧ dg * t + f % t < 2 ^ (200 * (i + 1)) := by
  have e0 := Int.emod_nonneg f (Int.ne_of_gt hp)
  have e1 := Int.emod_lt_of_pos f hp
  have e2 : 0 ≤ dg * t := Int.mul_nonneg h0 (Int.le_of_lt hp)
  refine ⟨by omega, ?_⟩
  have e3 : dg * t + f % t < (dg + 1) * t := by
    rw [Int.add_mul, Int.one_mul]
    omega
  have e4 : (dg + 1) * t ≤ 2 ^ (200 * i) * 2 ^ 200 := Int.mul_le_mul h1 (Int.le_of_lt ht) (Int.le_of_lt hp) (Int.pow_nonneg (by decide))
  have e5 : (2 : Int) ^ (200 * (i + 1)) = 2 ^ (200 * i) * 2 ^ 200 := by
    rw [← Int.pow_add]
    congr 1
  rw [e5]
  exact Int.lt_of_lt_of_le e3 e4
theorem nat_lt_of {x : Int} {n : Nat} (h0 : 0 ≤ x) (h : x < 2 ^ n) : x.natAbs < 2 ^ n := by
  have e : (x.natAbs : Int) = x := Int.natAbs_of_nonneg h0
  have h' : (x.natAbs : Int) < ((2 ^ n : Nat) : Int) := by
    rw [e]
    push_cast
    exact h
  exact Int.ofNat_lt.mp h'
theorem dig_mono {x : Int} {i j : Nat} (h : x < 2 ^ (200 * i)) (e : i ≤ j) : x < 2 ^ (200 * j) := by
  refine Int.lt_of_lt_of_le h ?_
  have z : (2 : Nat) ^ (200 * i) ≤ 2 ^ (200 * j) := Nat.pow_le_pow_right (by decide) (by omega)
  have z' : ((2 ^ (200 * i) : Nat) : Int) ≤ ((2 ^ (200 * j) : Nat) : Int) := Int.ofNat_le.mpr z
  push_cast at z'
  exact z'
theorem ok_rng {f : Addr} {fd : FuncData} (F : Fun K "_law_rng" "_law_rng" s_Lrng f fd) (T : Txt mg) : FnOk P w K mg base CX0 1 f fd ["_law_script"] (spRng K) := by
  refine F.ok sc_Lrng (fun vs H Q E h => ?_) (fun cdv A outer sh H vs Q E hr h => ?_)
  · obtain ⟨a, ns, rfl, _⟩ := h
    rfl
  · obtain ⟨a, ns, rfl, ha, hl, q⟩ := h
    refine ⟨_, (pss_cons (ps_asg (pe_tup (pa_cons pe_int (pa_cons pe_int pa_nil))) (pg_tup rfl (pgs_cons (pg_name (i := 1) sc_Lrng.nd rfl (by first | exact Or.inl rfl | exact Or.inr rfl)) (pgs_cons (pg_name (i := 2) sc_Lrng.nd rfl (by first | exact Or.inl rfl | exact Or.inr rfl)) pgs_nil))))
  (pss_cons (ps_for PassesOwn.never rfl (pi_list (pe_slice sl_list (pv 0) po_none (po_some pe_int))) (pg_name (i := 3) sc_Lrng.nd rfl (by first | exact Or.inl rfl | exact Or.inr rfl))
    (pss_cons (ps_set (i := 4) sc_Lrng.nd rfl (by first | exact Or.inl rfl | exact Or.inr rfl) (pe_callB call_abs (by rfl) T.b_abs (by decide +kernel) (pa_cons (pv 3) pa_nil)))
    (pss_cons (ps_if (pt_cmpR op_ge (pv 4) (pe_op op_pow pe_int pe_int) (nomark _))
      (pss_one (ps_set (i := 1) sc_Lrng.nd rfl (by first | exact Or.inl rfl | exact Or.inr rfl) (pe_op op_add (pe_op op_mulW (pv 1) (pe_op op_pow pe_int pe_int)) (pe_op op_mod (pe_callTy call_int1 (by rfl) T.b_int (by decide +kernel) (pa_cons (pv 4) pa_nil)) (pe_op op_pow pe_int pe_int)))))
      pss_nil)
    (pss_one (ps_set (i := 2) sc_Lrng.nd rfl (by first | exact Or.inl rfl | exact Or.inr rfl) (pe_op op_mod (pe_callTy call_int1 (by rfl) T.b_int (by decide +kernel) (pa_cons (pe_op op_add (pe_op op_add (pe_op op_mulW (pv 2) pe_int) (pe_op op_mod (pe_callTy call_int1 (by rfl) T.b_int (by decide +kernel) (pa_cons (pv 3) pa_nil)) pe_int)) pe_int) pa_nil)) pe_int))))))
  (pss_one (ps_ret (pe_lst (pa_cons (pv 1) (pa_cons (pv 2) (pa_cons pe_int pa_nil)))))))), ?_⟩
    refine ⟨(by show 2 ≤ sizeLine; decide), fun p0 hp0 => ⟨p0, _, rfl, Or.inl (Or.inl upd_same), rfl, _, _, rfl, _, _, rfl, rfl, ?_⟩⟩
    have s0 : Same H (upd H p0 (.tup [.int 0, .int 88675123])) := snew hp0
    have ha := sql s0 ha
    generalize upd H p0 (.tup [.int 0, .int 88675123]) = H0 at s0 ha ⊢
    refine ⟨_, rfl, 63, rfl, a, _, rfl, ha, fun p hp => ?_⟩
    have hc : cutV (ns.map V.int) none (some 63) = ns.map V.int := cut_all _ 63 (by rw [List.length_map]; exact hl)
    rw [hc]
    have s1 : Same H (upd H0 p (.lst (ns.map V.int))) := same_tr s0 (snew hp)
    have hp1 : (upd H0 p (.lst (ns.map V.int))) p = some (.lst (ns.map V.int)) := upd_same
    generalize upd H0 p (.lst (ns.map V.int)) = H1 at s1 hp1 ⊢
    refine ⟨p, rfl, ⟨_, Or.inl (Or.inl hp1)⟩, for_it (walk_list (K := K) (a := p) (xs := ns.map V.int)) (fun i σ H' => ∃ dg sd y3 y4, σ = [some (.ref a), some (.int dg), some (.int sd), y3, y4] ∧ 0 ≤ dg ∧ dg < 2 ^ (200 * i) ∧ 0 ≤ sd ∧ sd < 2 ^ 62 ∧ H' = H1)
      ⟨0, 88675123, none, none, rfl, by decide, by decide, by decide, by decide, rfl⟩ (fun i σ H' _ ⟨_, _, _, _, _, _, _, _, _, e⟩ => by rw [e]; exact Or.inl (Or.inl hp1)) ?_ ?_⟩
    · rintro i y σ _ H2 hi ⟨dg, sd, y3, y4, rfl, d0, d1, sd0, sd1, rfl⟩ ⟨rfl, hy⟩
      rw [List.getElem?_map] at hy
      obtain ⟨n, hn, rfl⟩ := Option.map_eq_some_iff.mp hy
      rw [List.length_map] at hi
      refine ⟨_, rfl, n, rfl, ?_⟩
      refine ⟨_, rfl, 10, 18, rfl, rfl, ⟨by decide, by decide, by decide⟩, _, _, rfl, rfl, _, rfl, ?_⟩
      have wsd : (sd : Int).natAbs < 2 ^ 100000 := nat_lt_of (n := 100000) sd0 (Int.lt_trans sd1 (by decide +kernel))
      refine ite2 (fun hq => ?_) (fun hq => ?_)
      · have wdg : dg.natAbs < 2 ^ 20000 := nat_lt_of (n := 20000) d0 (dig_mono d1 (show i ≤ 100 by omega))
        refine ⟨_, rfl, 10, 60, rfl, rfl, ⟨by decide, by decide, by decide⟩, dg, _, rfl, rfl, wide_mul (a := 20000) (b := 200) wdg p1060 (by decide) (by decide) (by decide), _, rfl, Or.inl ⟨_, rfl, 10, 60, rfl, rfl, ⟨by decide, by decide, by decide⟩, _, _, rfl, rfl, p1060p, _, _, rfl, rfl, ?_⟩⟩
        obtain ⟨e1, e2⟩ := dig_step (f := if n < 0 then -n else n) d0 d1 p1060p p1060'
        refine ⟨_, rfl, sd, 1000003, rfl, rfl, wide_mul (a := 100000) (b := 100) wsd (by decide) (by decide) (by decide) (by decide), _, rfl, Or.inl ⟨n, rfl, n, _, rfl, rfl, pos1, _, _, rfl, rfl, _, _, rfl, rfl, Or.inl ⟨_, rfl, _, _, rfl, rfl, pos2, ?_⟩⟩⟩
        exact ⟨_, _, _, _, rfl, e1, e2, Int.emod_nonneg _ (by decide), Int.lt_trans (Int.emod_lt_of_pos _ (by decide)) (by decide), rfl⟩
      · refine ⟨_, rfl, sd, 1000003, rfl, rfl, wide_mul (a := 100000) (b := 100) wsd (by decide) (by decide) (by decide) (by decide), _, rfl, Or.inl ⟨n, rfl, n, _, rfl, rfl, pos1, _, _, rfl, rfl, _, _, rfl, rfl, Or.inl ⟨_, rfl, _, _, rfl, rfl, pos2, ?_⟩⟩⟩
        exact ⟨_, _, _, _, rfl, d0, dig_mono d1 (by omega), Int.emod_nonneg _ (by decide), Int.lt_trans (Int.emod_lt_of_pos _ (by decide)) (by decide), rfl⟩
    · rintro σ H2 ⟨dg, sd, y3, y4, rfl, d0, d1, sd0, sd1, rfl⟩
      rw [List.length_map] at d1
      refine ⟨_, rfl, _, rfl, (by show 3 ≤ sizeLine; decide), fun r hr' => ?_⟩
      refine q r _ (free_of s1 hr') (same_tr s1 (snew hr')) ⟨dg, sd, 0, upd_same, d0, ?_, sd0, sd1, by decide, by decide⟩
      have := dig_mono d1 (show ns.length ≤ 100 by omega)
      exact nat_lt_of (n := 20000) d0 this
/-- only the state of the draws changed -/
structure Dr (r : Addr) (m : Nat) (H H' : Hp) : Prop where
  ne : ∀ b, b ≠ r → H' b = H b
  ok : RngOk H' r m
structure RS (r : Addr) (m : Nat) (B H : Hp) : Prop where
  s : Same B H
  n : B r = none
  ok : RngOk H r m
theorem RS.dr {r : Addr} {m m' : Nat} {B H H' : Hp} (h : RS r m B H) (d : Dr r m' H H') : RS r m' B H' := ⟨fun b o e => by
  rw [d.ne b (ne_of_none e h.n)]
  exact h.s b o e, h.n, d.ok⟩
theorem RngOk.at {r : Addr} {m : Nat} {H H' : Hp} (h : RngOk H r m) (e : H' r = H r) : RngOk H' r m := by
  obtain ⟨a, b, c, h1, h2⟩ := h
  exact ⟨a, b, c, by rw [e, h1], h2⟩
theorem RngOk.some {r : Addr} {m : Nat} {H : Hp} (h : RngOk H r m) : ∃ o, H r = some o := by
  obtain ⟨a, b, c, h1, h2⟩ := h
  exact ⟨_, h1⟩
theorem RngOk.new {r p : Addr} {m : Nat} {H : Hp} {o : HO} (h : RngOk H r m) (e : H p = none) : RngOk (upd H p o) r m := by
  obtain ⟨o', ho⟩ := h.some
  exact h.at (upd_ne (ne_of_none ho e))
theorem RS.new {r p : Addr} {m : Nat} {B H : Hp} {o : HO} (h : RS r m B H) (e : H p = none) : RS r m B (upd H p o) := ⟨same_tr h.s (snew e), h.n, h.ok.new e⟩
theorem RS.put {r p : Addr} {m : Nat} {B H : Hp} {o : HO} (h : RS r m B H) (e : B p = none) (n : r ≠ p) : RS r m B (upd H p o) := ⟨swrite h.s e, h.n, h.ok.at (upd_ne n)⟩
/-- a new thing that stays -/
theorem RS.keep {r p : Addr} {m : Nat} {B H : Hp} {o : HO} (h : RS r m B H) (e : H p = some o) (k : B p = none) (n : r ≠ p) : RS r m (upd B p o) H := ⟨fun b x q => by
  by_cases hb : b = p
  · rw [hb, upd_same] at q
    rw [hb, e, q]
  · rw [upd_ne hb] at q
    exact h.s b x q, by rw [upd_ne n]; exact h.n, h.ok⟩
theorem RS.ne {r p : Addr} {m : Nat} {B H : Hp} (h : RS r m B H) (e : H p = none) : r ≠ p := by
  obtain ⟨o', ho⟩ := h.ok.some
  exact ne_of_none ho e
theorem RS.mono {r : Addr} {m m' : Nat} {B H : Hp} (h : RS r m B H) (e : m ≤ m') : RS r m' B H := ⟨h.s, h.n, h.ok.mono e⟩
def spDraw : Sp := fun vs H Q _ => ∃ (r : Addr) (lim : Int) (m : Nat), vs = [.ref r, .int lim] ∧ RngOk H r m ∧ m ≤ 2 ^ 60 ∧ 0 < lim ∧ lim.natAbs < 2 ^ 200 ∧ ∀ d H', 0 ≤ d → d < lim → Dr r (m + 1) H H' → Q (.int d) H'
theorem pos3 : (0 : Int) < 162259276829213363391578010288127 := by decide
theorem pos4 : (0 : Int) < 170141183460469231731687303715884105727 := by decide
theorem pos5 : (0 : Int) < 1048576 := by decide
theorem ok_draw {f : Addr} {fd : FuncData} (F : Fun K "_law_draw" "_law_draw" s_Ldraw f fd) (T : Txt mg) : FnOk P w K mg base CX0 1 f fd ["_law_rng_here", "_law_limit"] spDraw := by
  refine F.ok sc_Ldraw (fun vs H Q E h => ?_) (fun cdv A outer sh H vs Q E hr h => ?_)
  · obtain ⟨r, lim, m, rfl, _⟩ := h
    rfl
  · obtain ⟨r, lim, m, rfl, ⟨a, b, c, hR, N⟩, hm, l0, l1, q⟩ := h
    refine ⟨_, (pss_cons (ps_if (pt_cmpR op_gt (pe_ix ix_list (pv 0) pe_int (fun _ _ => rfl)) pe_int (nomark _))
    (pss_cons (ps_set (i := 2) sc_Ldraw.nd rfl (by first | exact Or.inl rfl | exact Or.inr rfl) (pe_op op_mod (pe_callTy call_int1 (by rfl) T.b_int (by decide +kernel) (pa_cons (pe_ix ix_list (pv 0) pe_int (fun _ _ => rfl)) pa_nil)) (pv 1)))
    (pss_cons (ps_asg (pe_op op_fdivW (pe_ix ix_list (pv 0) pe_int (fun _ _ => rfl)) (pv 1)) (pg_sub (pv 0) pe_int set_list))
    (pss_one (ps_ret (pv 2)))))
    pss_nil)
  (pss_cons (ps_asg (pe_op op_add (pe_ix ix_list (pv 0) pe_int (fun _ _ => rfl)) pe_int) (pg_sub (pv 0) pe_int set_list))
  (pss_cons (ps_set (i := 3) sc_Ldraw.nd rfl (by first | exact Or.inl rfl | exact Or.inr rfl) (pe_op op_mod (pe_callTy call_int1 (by rfl) T.b_int (by decide +kernel) (pa_cons (pe_op op_powW (pe_op op_add (pe_ix ix_list (pv 0) pe_int (fun _ _ => rfl)) (pe_op op_mulW pe_int (pe_ix ix_list (pv 0) pe_int (fun _ _ => rfl)))) pe_int) pa_nil)) pe_int))
  (pss_cons (ps_set (i := 3) sc_Ldraw.nd rfl (by first | exact Or.inl rfl | exact Or.inr rfl) (pe_op op_mod (pe_callTy call_int1 (by rfl) T.b_int (by decide +kernel) (pa_cons (pe_op op_powW (pe_op op_add (pv 3) (pe_op op_mulW pe_int (pe_ix ix_list (pv 0) pe_int (fun _ _ => rfl)))) pe_int) pa_nil)) pe_int))
  (pss_one (ps_ret (pe_op op_mod (pe_callTy call_int1 (by rfl) T.b_int (by decide +kernel) (pa_cons (pe_op op_fdivW (pv 3) pe_int) pa_nil)) (pv 1)))))))), ?_⟩
    have sq : SqL K H r [.int a, .int b, .int c] := Or.inl (Or.inl hR)
    refine ⟨_, rfl, r, _, 0, _, rfl, rfl, sq, rfl, a, 0, rfl, rfl, decide (0 < a), rfl, ?_⟩
    refine ite2 (fun h0 => ?_) (fun h0 => ?_)
    · have h0 : 0 < a := of_decide_eq_true h0
      refine ⟨_, rfl, r, _, 0, _, rfl, rfl, sq, rfl, Or.inl ⟨a, rfl, _, rfl, a, lim, rfl, rfl, l0, ?_⟩⟩
      refine ⟨_, rfl, r, _, 0, _, rfl, rfl, sq, rfl, _, rfl, a, lim, rfl, rfl, wide_div l0 l1 (by decide) (by decide), ?_⟩
      · refine ⟨_, rfl, r, _, 0, 0, rfl, rfl, hR, rfl, ?_⟩
        refine ⟨_, rfl, q _ _ (Int.emod_nonneg _ (Int.ne_of_gt l0)) (Int.emod_lt_of_pos _ l0) ⟨fun x hx => upd_ne hx, _, b, c, upd_same, ?_⟩⟩
        refine ⟨Int.ediv_nonneg N.a0 (Int.le_of_lt l0), ?_, N.b0, N.b1, N.c0, by have := N.c1; omega⟩
        refine Nat.lt_of_le_of_lt ?_ N.a1
        have e1 := Int.ediv_le_self lim (a := a) N.a0
        have e0 := Int.ediv_nonneg N.a0 (Int.le_of_lt l0)
        omega
    · have hc : (c + 1).natAbs < 2 ^ 100 := by
        have h1 := N.c0
        have h2 := N.c1
        omega
      have hcc : c + 1 ≤ ((m + 1 : Nat) : Int) := by
        have h2 := N.c1
        omega
      refine ⟨_, rfl, r, _, 2, _, rfl, rfl, sq, rfl, c, 1, rfl, rfl, _, rfl, r, _, 2, 2, rfl, rfl, hR, rfl, ?_⟩
      have dr : Dr r (m + 1) H (upd H r (.lst [.int a, .int b, .int (c + 1)])) := ⟨fun x hx => upd_ne hx, a, b, c + 1, upd_same, ⟨N.a0, N.a1, N.b0, N.b1, by have := N.c0; omega, hcc⟩⟩
      have hR' : (upd H r (.lst [.int a, .int b, .int (c + 1)])) r = some (.lst [.int a, .int b, .int (c + 1)]) := upd_same
      have sq2 : SqL K (upd H r (.lst [.int a, .int b, .int (c + 1)])) r [.int a, .int b, .int (c + 1)] := Or.inl (Or.inl hR')
      have c0 := N.c0
      have b0 := N.b0
      have b1 := N.b1
      have hc9 : c + 1 < 2 ^ 100 := by omega
      have w1 : (b + 998244353 * (c + 1)).natAbs < 2 ^ 1000000 := Nat.lt_of_lt_of_le (m := 2 ^ 200) (by omega) (Nat.pow_le_pow_right (by decide) (by decide))
      refine ⟨_, rfl, r, _, 1, _, rfl, rfl, sq2, rfl, _, rfl, r, _, 2, _, rfl, rfl, sq2, rfl, _, _, rfl, rfl, wide_mul (a := 100) (b := 100) (by decide) hc (by decide) (by decide) (by decide), _, _, rfl, rfl, _, 3, rfl, rfl, ⟨by decide, by decide, w1⟩, Or.inl ⟨_, rfl, _, _, rfl, rfl, pos3, ?_⟩⟩
      have x0 := Int.emod_nonneg ((b + 998244353 * (c + 1)) ^ 3) (Int.ne_of_gt pos3)
      have x1 := Int.emod_lt_of_pos ((b + 998244353 * (c + 1)) ^ 3) pos3
      have w2 : ((b + 998244353 * (c + 1)) ^ 3 % 162259276829213363391578010288127 + 32452843 * (c + 1)).natAbs < 2 ^ 1000000 := Nat.lt_of_lt_of_le (m := 2 ^ 200) (by omega) (Nat.pow_le_pow_right (by decide) (by decide))
      refine ⟨_, rfl, _, rfl, r, _, 2, _, rfl, rfl, sq2, rfl, _, _, rfl, rfl, wide_mul (a := 100) (b := 100) (by decide) hc (by decide) (by decide) (by decide), _, _, rfl, rfl, _, 3, rfl, rfl, ⟨by decide, by decide, w2⟩, Or.inl ⟨_, rfl, _, _, rfl, rfl, pos4, ?_⟩⟩
      refine ⟨_, rfl, _, _, rfl, rfl, wide_div pos5 (b := 100) (by decide) (by decide) (by decide), Or.inl ⟨_, rfl, _, rfl, _, lim, rfl, rfl, l0, ?_⟩⟩
      exact q _ _ (Int.emod_nonneg _ (Int.ne_of_gt l0)) (Int.emod_lt_of_pos _ l0) dr
end
end Fr

namespace Fr
open PySem PySem.Spec PyProof.Rows L2
/-- all but one place -/
def cutr (H : Hp) (r : Addr) : Hp := fun b => if b = r then none else H b
theorem cutr_ne {H : Hp} {r b : Addr} (h : b ≠ r) : cutr H r b = H b := if_neg h
theorem RS.cut {r : Addr} {m : Nat} {H : Hp} (h : RngOk H r m) : RS r m (cutr H r) H := ⟨fun b o e => by
  unfold cutr at e
  split at e
  · cases e
  · exact e, if_pos rfl, h⟩
section
variable {P : Program} {w : World} {K : PySem.W.Frag} {mg : Str → Option Value} {base : Heap}
def Good (d : PyData) : Prop := d.canLay0 = true ∧ d.depth ≤ 30
theorem goods : ∀ {ds : List PyData}, (∀ d ∈ ds, Good d) → PyData.canLayAll0 ds = true ∧ PyData.depthAll ds ≤ 30
  | [], _ => ⟨by simp [PyData.canLayAll0], by simp [PyData.depthAll]⟩
  | d :: ds, h => by
    obtain ⟨h1, h2⟩ := h d List.mem_cons_self
    obtain ⟨h3, h4⟩ := goods fun e he => h e (List.mem_cons_of_mem _ he)
    exact ⟨by simp [PyData.canLayAll0, h1, h3], by simp [PyData.depthAll]; omega⟩
theorem shaped_list {ds : List PyData} (h : ∀ d ∈ ds, Good d) : SeqAt.shaped (.list ds) = true := by
  obtain ⟨h1, h2⟩ := goods h
  unfold SeqAt.shaped
  rw [Bool.and_eq_true]
  refine ⟨by simpa [PyData.canLay0] using h1, decide_eq_true ?_⟩
  simp [PyData.depth]
  omega
theorem eqv_nil (ds : List PyData) : PyData.eqv (.list ds) (.list []) = ds.isEmpty := by
  cases ds <;> simp [PyData.eqv, PyData.eqvAll]
theorem dps_erase : ∀ {H : Hp} {ds : List PyData} {vs : List V} {k : Nat}, DpAll K H vs ds → DpAll K H (vs.eraseIdx k) (ds.eraseIdx k)
  | _, [], _, _, h => by cases h; exact .nil
  | _, d :: ds, _, 0, h => by
    cases h with
    | cons h1 h2 => exact h2
  | _, d :: ds, _, k + 1, h => by
    cases h with
    | cons h1 h2 => exact .cons h1 (dps_erase h2)
theorem perm_erase {α : Type} : ∀ {xs : List α} {k : Nat} {x : α}, xs[k]? = some x → List.Perm xs (x :: xs.eraseIdx k)
  | [], _, _, h => by cases h
  | y :: xs, 0, x, h => by cases h; exact .refl _
  | y :: xs, k + 1, x, h => by
    have := perm_erase (xs := xs) (k := k) (x := x) (by simpa using h)
    exact (this.cons y).trans (.swap _ _ _)
def spMixed (K : PySem.W.Frag) : Sp := fun vs H Q _ => ∃ (r l : Addr) (m : Nat) (B : Hp) (xs : List V) (ds : List PyData), vs = [.ref r, .ref l] ∧ RS r m B H ∧ SqL K B l xs ∧ DpAll K B xs ds ∧ (∀ d ∈ ds, Good d) ∧ ds.length ≤ 1000 ∧ m ≤ 2 ^ 59 ∧
  ∀ p H' ys es, B p = none → r ≠ p → List.Perm ds es → DpAll K B ys es → RS r (m + ds.length) (upd B p (.lst ys)) H' → Q (.ref p) H'
theorem ok_mixed {f : Addr} {fd : FuncData} (F : Fun K "_law_mixed" "_law_mixed" s_Lmixed f fd) (T : Txt mg) (c_Ldraw : C8.Cal P w K mg base 1 "_law_draw" spDraw []) : FnOk P w K mg base CX0 2 f fd ["_law_rng_here", "_law_some"] (spMixed K) := by
  refine F.ok sc_Lmixed (fun vs H Q E h => ?_) (fun cdv A outer sh H vs Q E hr h => ?_)
  · obtain ⟨r, l, m, B, xs, ds, rfl, _⟩ := h
    rfl
  · obtain ⟨r, l, m, B, xs, ds, rfl, R, hl, hd, hg, hlen, hm, q⟩ := h
    have hxl := dps_len hd
    refine ⟨_, (pss_cons (ps_par (i := 2) (j := 3) (by rfl) sc_Lmixed.nd rfl rfl (by decide) rfl rfl (pa_cons (pe_callTy call_list_of (by rfl) T.b_list (by decide +kernel) (pa_cons (pv 1) pa_nil)) (pa_cons (pe_lst pa_nil) pa_nil)) (by rfl))
  (pss_cons (ps_while PassesOwn.never (pt_cmpR (op_neD hr.units) (pv 2) (pe_lst pa_nil) (nomark _))
    (pss_one (ps_expr (pe_bm PySem.F.plainAttrs_list PySem.F.slot_list_append PySem.F.type_list_append mt_append (pv 3) (pa_cons (pe_bm PySem.F.plainAttrs_list PySem.F.slot_list_pop PySem.F.type_list_pop mt_popAt (pv 2) (pa_cons (C8.pe_c c_Ldraw hr (by decide) (by rfl) (pa_cons (pv 0) (pa_cons (pe_callB call_len_seq (by rfl) T.b_len PySem.boot_len (pa_cons (pv 2) pa_nil)) pa_nil))) pa_nil)) pa_nil)))))
  (pss_one (ps_ret (pv 3))))), ?_⟩
    refine ⟨_, rfl, l, xs, rfl, Or.inl (sql R.s hl), fun L hL => ?_⟩
    have R1 : RS r m B (upd H L (.lst xs)) := R.new hL
    have L1 : (upd H L (.lst xs)) L = some (.lst xs) := upd_same
    have bL : B L = none := free_of R.s hL
    have rL := R.ne hL
    generalize upd H L (.lst xs) = H1 at R1 L1 ⊢
    refine ⟨Nat.zero_le _, fun U hU => ⟨_, _, rfl, ?_⟩⟩
    have R2 : RS r m B (upd H1 U (.lst [])) := R1.new hU
    have U2 : (upd H1 U (.lst [])) U = some (.lst []) := upd_same
    have bU : B U = none := free_of R1.s hU
    have rU := R1.ne hU
    have LU : L ≠ U := ne_of_none L1 hU
    have L2 : (upd H1 U (.lst [])) L = some (.lst xs) := by rw [upd_ne LU]; exact L1
    generalize upd H1 U (.lst []) = H2 at R2 L2 U2 ⊢
    refine ⟨fun n σ H' => ∃ lv ld tv td, σ = [some (.ref r), some (.ref l), some (.ref L), some (.ref U)] ∧ H' L = some (.lst lv) ∧ H' U = some (.lst tv) ∧ DpAll K B lv ld ∧ DpAll K B tv td ∧ List.Perm ds (td ++ ld) ∧ n = ld.length ∧ RS r (m + td.length) B H',
      ⟨_, xs, ds, [], [], rfl, L2, U2, hd, .nil, .refl _, rfl, R2⟩, ?_⟩
    rintro n σ H3 ⟨lv, ld, tv, td, rfl, L3, U3, dl, dt, pm, rfl, R3⟩
    have hpl := pm.length_eq
    rw [List.length_append] at hpl
    have lvl := dps_len dl
    have tvl := dps_len dt
    have gl : ∀ d ∈ ld, Good d := fun d h => hg d (pm.mem_iff.mpr (List.mem_append.mpr (.inr h)))
    refine ⟨_, rfl, Nat.zero_le _, fun p hp => ⟨.list ld, .list [], .lst (Or.inl (Or.inl ?_)) (dpsm (same_tr R3.s (snew hp)) _ _ dl), .lst (Or.inl (Or.inl upd_same)) .nil, shaped_list gl, shaped_list (by intro d h; cases h), _, rfl, ?_⟩⟩
    · rw [upd_ne (ne_of_none L3 hp)]
      exact L3
    rw [eqv_nil]
    have L4 : (upd H3 p (.lst [])) L = some (.lst lv) := by rw [upd_ne (ne_of_none L3 hp)]; exact L3
    have U4 : (upd H3 p (.lst [])) U = some (.lst tv) := by rw [upd_ne (ne_of_none U3 hp)]; exact U3
    have R4 : RS r (m + td.length) B (upd H3 p (.lst [])) := R3.new hp
    generalize upd H3 p (.lst []) = H4 at L4 U4 R4 ⊢
    cases hld : ld with
    | nil =>
      subst hld
      refine iteF ?_
      refine ⟨_, rfl, ?_⟩
      rw [List.append_nil] at pm
      refine q U H4 tv td bU rU pm dt ?_
      have e : ds.length = td.length := pm.length_eq
      rw [e]
      exact R4.keep U4 bU rU
    | cons d0 ld0 =>
      rw [← hld]
      have hpos : 0 < ld.length := by rw [hld]; exact Nat.succ_pos _
      have hne : ld.isEmpty = false := by rw [hld]; rfl
      rw [hne]
      refine iteT ⟨fun σ' H' => ∃ m', m' < ld.length ∧ ∃ lv ld tv td, σ' = [some (.ref r), some (.ref l), some (.ref L), some (.ref U)] ∧ H' L = some (.lst lv) ∧ H' U = some (.lst tv) ∧ DpAll K B lv ld ∧ DpAll K B tv td ∧ List.Perm ds (td ++ ld) ∧ m' = ld.length ∧ RS r (m + td.length) B H', fun _ _ h => h, ?_⟩
      refine ⟨_, rfl, Or.inl ⟨rfl, _, Or.inl (Or.inl U4)⟩, _, rfl, Or.inl ⟨rfl, _, Or.inl (Or.inl L4)⟩, _, rfl, _, rfl, L, lv, rfl, Or.inl (Or.inl (Or.inl L4)), r, _, _, rfl, R4.ok, by omega, by omega, by omega, fun d H5 d1 d2 D => ?_⟩
      have L5 : H5 L = some (.lst lv) := by rw [D.ne _ rL.symm]; exact L4
      have U5 : H5 U = some (.lst tv) := by rw [D.ne _ rU.symm]; exact U4
      have R5 := R4.dr D
      have d3 : d < (lv.length : Int) := d2
      obtain ⟨y, a1, a2, a3⟩ := atI_in d1 d3
      obtain ⟨j, b1, b2, b3, b4, b5⟩ := atI_get a1
      obtain ⟨e, e1, e2⟩ := dps_get dl b2
      have lj : (lv.eraseIdx j).length + 1 = lv.length := by
        rw [List.length_eraseIdx_of_lt b3]
        omega
      refine ⟨L, lv, d, j, y, rfl, rfl, L5, by omega, by omega, b1, b2, U, tv, y, rfl, rfl, ?_, small1000 (by omega), ?_⟩
      · rw [upd_ne LU.symm]
        exact U5
      · have dl' := dps_erase (k := j) dl
        have ll' := dps_len dl'
        refine ⟨(ld.eraseIdx j).length, by omega, lv.eraseIdx j, ld.eraseIdx j, tv ++ [y], td ++ [e], rfl, ?_, upd_same, dl', dps_snoc dt e2, ?_, rfl, ?_⟩
        · rw [upd_ne LU]
          exact upd_same
        · refine pm.trans ?_
          rw [List.append_assoc]
          exact .append_left _ (perm_erase e1)
        · have := (R5.put (o := .lst (lv.eraseIdx j)) bL rL).put (o := .lst (tv ++ [y])) bU rU
          rw [List.length_append]
          exact this
def spVector (K : PySem.W.Frag) : Sp := fun vs H Q _ => ∃ (r : Addr) (dims wide : Int) (m : Nat) (B : Hp), vs = [.ref r, .int dims, .int wide] ∧ RS r m B H ∧ 0 ≤ dims ∧ dims ≤ 3 ∧ 0 ≤ wide ∧ wide ≤ 1000 ∧ m ≤ 2 ^ 59 ∧
  ∀ p H' (v : List Int), B p = none → r ≠ p → (v.length : Int) = dims → (∀ x ∈ v, -1000 ≤ x ∧ x ≤ 1000) → RS r (m + 9) (upd B p (.tup (v.map V.int))) H' → Q (.ref p) H'
theorem ok_vector {f : Addr} {fd : FuncData} (F : Fun K "_law_vector" "_law_vector" s_Lvector f fd) (T : Txt mg) (c_Ldraw : C8.Cal P w K mg base 1 "_law_draw" spDraw []) : FnOk P w K mg base CX0 2 f fd ["_law_rng_here", "_law_dims", "_law_wide"] (spVector K) := by
  refine F.ok sc_Lvector (fun vs H Q E h => ?_) (fun cdv A outer sh H vs Q E hr h => ?_)
  · obtain ⟨r, dims, wide, m, B, rfl, _⟩ := h
    rfl
  · obtain ⟨r, dims, wide, m, B, rfl, R, hd0, hd3, hw0, hw1, hm, q⟩ := h
    refine ⟨_, (pss_cons (ps_set (i := 3) sc_Lvector.nd rfl (by first | exact Or.inl rfl | exact Or.inr rfl) (pe_lst pa_nil))
  (pss_cons (ps_for PassesOwn.never rfl (pi_range1 (by rfl) T.b_range (pa_cons (pv 1) pa_nil)) (pg_name (i := 4) sc_Lvector.nd rfl (by first | exact Or.inl rfl | exact Or.inr rfl))
    (pss_one (ps_expr (pe_bm PySem.F.plainAttrs_list PySem.F.slot_list_append PySem.F.type_list_append mt_append (pv 3) (pa_cons (pe_ix ix_list (pe_lst (pa_cons pe_int (pa_cons pe_int (pa_cons (C8.pe_c c_Ldraw hr (by decide) (by rfl) (pa_cons (pv 0) (pa_cons (pe_op op_add (pv 2) pe_int) pa_nil))) (pa_cons (pe_op op_sub pe_int (C8.pe_c c_Ldraw hr (by decide) (by rfl) (pa_cons (pv 0) (pa_cons (pe_op op_add (pv 2) pe_int) pa_nil)))) pa_nil))))) (C8.pe_c c_Ldraw hr (by decide) (by rfl) (pa_cons (pv 0) (pa_cons pe_int pa_nil))) (fun _ _ => rfl)) pa_nil)))))
  (pss_one (ps_ret (pe_callTy call_tuple_of (by rfl) T.b_tuple (by decide +kernel) (pa_cons (pv 3) pa_nil)))))), ?_⟩
    refine ⟨Nat.zero_le _, fun L hL => ?_⟩
    have R1 : RS r m B (upd H L (.lst [])) := R.new hL
    have L1 : (upd H L (.lst [])) L = some (.lst []) := upd_same
    have bL : B L = none := free_of R.s hL
    have rL := R.ne hL
    generalize upd H L (.lst []) = H1 at R1 L1 ⊢
    refine ⟨_, rfl, dims, rfl, by omega, by omega, for_range (fun i σ H' => ∃ (y4 : Option V) (xs : List Int), σ = [some (.ref r), some (.int dims), some (.int wide), some (.ref L), y4] ∧ xs.length = i ∧ (∀ x ∈ xs, -1000 ≤ x ∧ x ≤ 1000) ∧ H' L = some (.lst (xs.map V.int)) ∧ RS r (m + 3 * i) B H')
      ⟨none, [], rfl, rfl, (by intro x hx; cases hx), L1, R1⟩ ?_ ?_⟩
    · rintro i σ H2 hi ⟨y4, xs, rfl, hx, hb, L2, R2⟩
      have hi3 : i < 3 := by omega
      refine ⟨_, rfl, Or.inl ⟨rfl, _, Or.inl (Or.inl L2)⟩, _, rfl, _, rfl, _, _, rfl, rfl, r, _, _, rfl, R2.ok, by omega, by omega, by omega, fun d1 H3 a0 a1 D1 => ?_⟩
      have R3 := R2.dr D1
      have L3 : H3 L = some (.lst (xs.map V.int)) := by rw [D1.ne _ rL.symm]; exact L2
      refine ⟨_, rfl, _, rfl, _, _, rfl, rfl, r, _, _, rfl, R3.ok, by omega, by omega, by omega, fun d2 H4 b0 b1 D2 => ⟨_, _, rfl, rfl, ?_⟩⟩
      have R4 := R3.dr D2
      have L4 : H4 L = some (.lst (xs.map V.int)) := by rw [D2.ne _ rL.symm]; exact L3
      refine ⟨(by show 4 ≤ sizeLine; decide), fun p hp => ?_⟩
      have R5 : RS r (m + 3 * i + 1 + 1) B (upd H4 p (.lst [.int 0, .int 1, .int d1, .int (0 - d2)])) := R4.new hp
      have L5 : (upd H4 p (.lst [.int 0, .int 1, .int d1, .int (0 - d2)])) L = some (.lst (xs.map V.int)) := by rw [upd_ne (ne_of_none L4 hp)]; exact L4
      have p5 : (upd H4 p (.lst [.int 0, .int 1, .int d1, .int (0 - d2)])) p = some (.lst ([0, 1, d1, 0 - d2].map V.int)) := upd_same
      refine ⟨_, rfl, r, 4, m + 3 * i + 1 + 1, rfl, R5.ok, by omega, by omega, by decide, fun d3 H6 c0 c1 D3 => ?_⟩
      have R6 := R5.dr D3
      have L6 : H6 L = some (.lst (xs.map V.int)) := by rw [D3.ne _ rL.symm]; exact L5
      have p6 : H6 p = some (.lst ([0, 1, d1, 0 - d2].map V.int)) := by rw [D3.ne _ (R4.ne hp).symm]; exact p5
      obtain ⟨y, e1, e2, _⟩ := atI_in (xs := [0, 1, d1, 0 - d2].map V.int) c0 c1
      obtain ⟨n, hn, rfl⟩ := List.mem_map.mp e2
      have hnb : -1000 ≤ n ∧ n ≤ 1000 := by
        simp only [List.mem_cons, List.not_mem_nil, or_false] at hn
        omega
      refine ⟨p, _, d3, .int n, rfl, rfl, Or.inl (Or.inl p6), e1, L, _, .int n, rfl, rfl, L6, small1000 (by rw [List.length_map]; omega), ?_⟩
      refine ⟨_, xs ++ [n], rfl, by rw [List.length_append, hx]; rfl, ?_, ?_, (R6.put bL rL).mono (by omega)⟩
      · intro x h
        rcases List.mem_append.mp h with h | h
        · exact hb x h
        · rw [List.mem_singleton.mp h]
          exact hnb
      · rw [upd_same, List.map_append]
        rfl
    · rintro σ H2 ⟨y4, xs, rfl, hx, hb, L2, R2⟩
      refine ⟨_, rfl, L, _, rfl, Or.inl ⟨Or.inl (Or.inl L2), fun l hl => ?_⟩⟩
      have R3 : RS r (m + 9) B (upd H2 l (.tup (xs.map V.int))) := (R2.new hl).mono (by omega)
      exact q l _ xs (free_of R2.s hl) (R2.ne hl) (by omega) hb (R3.keep upd_same (free_of R2.s hl) (R2.ne hl))
end
end Fr

namespace Fr
open PySem PySem.Spec PyProof.Rows L2
/-- a statement, up to what holds behind it -/
def tCsq (t : TS) : TS := fun D σ H => ∃ N : L2.St → Hp → Prop, (∀ σ H, N σ H → D.nx σ H) ∧ t { D with nx := N } σ H
theorem ps_csq {X : Cx} {st : Stmt} {t : TS} (h : PS X st t) : PS X st (tCsq t) := ⟨fun pins s σ H D I ⟨N, hN, q⟩ => thn (h.run pins s σ H _ I q) fun f s2 q2 => by
  cases f with
  | next =>
    obtain ⟨σ3, H3, I3, n3⟩ := q2
    exact ⟨σ3, H3, I3, hN _ _ n3⟩
  | cont => exact q2
  | brk => exact q2
  | ret v => exact q2⟩
abbrev s_Lmade_rows : Stmt := topS 25
theorem sc_Lmade_rows : FnScope ["_law_rng_here", "_law_dims", "_law_many", "_law_most", "_law_wide", "_law_words", "_law_word", "_law_rows", "_law_turn", "_law_number", "_law_some", "_law_factor"] ["_law_rng_here", "_law_dims", "_law_many", "_law_most", "_law_wide"] (defScope s_Lmade_rows) := ⟨rfl, rfl, rfl, by decide +kernel, rfl, by decide +kernel, by decide +kernel⟩
-- slots: 0 _law_rng_here, 1 _law_dims, 2 _law_many, 3 _law_most, 4 _law_wide, 5 _law_words, 6 _law_word, 7 _law_rows, 8 _law_turn, 9 _law_number, 10 _law_some, 11 _law_factor
def W0 : List Str := ["a", "b", "c", "ab", "zz", "readhere"]
def row5 (x : Str) : Str := "row" ++ cutS x none (some 5)
theorem W0_names : ∀ x ∈ W0, isName x = true ∧ isName (row5 x) = true ∧ x.length ≤ 8 ∧ PyData.strOk x = true ∧ PyData.strOk (row5 x) = true ∧ (cutS x none (some 5)).length ≤ 5 := by decide +kernel
theorem W0_nodup : W0.Nodup := by decide +kernel
theorem W0_nodup5 : (W0.map row5).Nodup := by decide +kernel
/-- what words may be -/
structure Words (ws : List Str) (n : Nat) : Prop where
  len : ws.length = n
  nodup : ws.Nodup
  names : ∀ x ∈ ws, isName x = true
  oks : ∀ x ∈ ws, PyData.strOk x = true
  src : (∀ x ∈ ws, x ∈ W0) ∨ ∀ x ∈ ws, x ∈ W0.map row5
def unstr : PyData → Str
  | .str x => x
  | _ => Str.empty
theorem perm_words {es : List PyData} (h : List.Perm (W0.map PyData.str) es) : ∃ ws, es = ws.map PyData.str ∧ List.Perm W0 ws := by
  refine ⟨es.map unstr, ?_, ?_⟩
  · rw [List.map_map]
    refine (List.map_id es).symm.trans (List.map_congr_left fun e he => ?_)
    obtain ⟨x, _, rfl⟩ := List.mem_map.mp (h.mem_iff.mpr he)
    rfl
  · have := h.map unstr
    rw [List.map_map] at this
    have e : W0.map (unstr ∘ PyData.str) = W0 := by
      refine (List.map_congr_left fun e he => ?_).trans (List.map_id W0)
      rfl
    rw [e] at this
    exact this
theorem nthsf (l : List Str) (g : Str → Str) : (List.range l.length).map (fun i => V.str (g (nth l i))) = (l.map g).map V.str := by
  have := range_map_get ((l.map g).map V.str) (fun i => V.str (g (nth l i))) (fun i b hb => by
    rw [List.getElem?_map, List.getElem?_map] at hb
    obtain ⟨c, h1, h2⟩ := Option.map_eq_some_iff.mp hb
    obtain ⟨c', h3, h4⟩ := Option.map_eq_some_iff.mp h1
    rw [nth_of h3, h4]
    exact h2)
  rw [List.length_map, List.length_map] at this
  exact this
theorem RS.grow {r : Addr} {m : Nat} {B H H' : Hp} (h : RS r m B H) (e : Same H H') : RS r m B H' := ⟨same_tr h.s e, h.n, by
  obtain ⟨o, ho⟩ := h.ok.some
  exact h.ok.at (by rw [ho, e _ _ ho])⟩
section
variable {P : Program} {w : World} {K : PySem.W.Frag} {mg : Str → Option Value} {base : Heap}
theorem strs_dps {H : Hp} : ∀ (xs : List Str), DpAll K H (xs.map V.str) (xs.map PyData.str)
  | [] => .nil
  | x :: xs => .cons (.str x) (strs_dps xs)
theorem dps_strs {H : Hp} : ∀ {xs : List Str} {vs : List V}, DpAll K H vs (xs.map PyData.str) → vs = xs.map V.str
  | [], _, h => by cases h; rfl
  | n :: ns, _, h => by
    cases h with
    | cons h1 h2 => cases h1; rw [dps_strs h2]; rfl
structure Row1 where
  t : Addr
  w : Str
  c : Int
  l : Addr
  rs : List Rd1
def Row1.tb (y : Row1) : Tb := ⟨y.w, y.c, y.rs⟩
structure RowsAt (K : PySem.W.Frag) (B H : Hp) (r : Addr) (rows : List Row1) : Prop where
  at_ : ∀ (i : Nat) (y : Row1), rows[i]? = some y → SqT K B y.t [.str y.w, .int y.c, .ref y.l] ∧ B y.l = none ∧ r ≠ y.l ∧ ∃ xs, H y.l = some (.lst xs) ∧ DpAll K B xs (y.rs.map Rd1.d)
  inj : ∀ (i j : Nat) (y z : Row1), rows[i]? = some y → rows[j]? = some z → y.l = z.l → i = j
theorem RowsAt.step {B B' H H' : Hp} {r : Addr} {rows : List Row1} (h : RowsAt K B H r rows) (e : Same B B') (f : ∀ (i : Nat) (y : Row1), rows[i]? = some y → B' y.l = none ∧ H' y.l = H y.l) : RowsAt K B' H' r rows :=
  ⟨fun i y hy => by
    obtain ⟨a1, a2, a3, xs, a4, a5⟩ := h.at_ i y hy
    obtain ⟨b1, b2⟩ := f i y hy
    exact ⟨sqt e a1, b1, a3, xs, by rw [b2, a4], dpsm e _ _ a5⟩, h.inj⟩
theorem get_snoc {α : Type} {xs : List α} {x y : α} {i : Nat} (h : (xs ++ [x])[i]? = some y) : (xs[i]? = some y ∧ i < xs.length) ∨ (i = xs.length ∧ y = x) := by
  by_cases hi : i < xs.length
  · rw [List.getElem?_append_left hi] at h
    exact .inl ⟨h, hi⟩
  · rw [List.getElem?_append_right (by omega)] at h
    have : i - xs.length = 0 := by
      by_cases h0 : i - xs.length = 0
      · exact h0
      · rw [List.getElem?_eq_none (by simp; omega)] at h
        cases h
    rw [this] at h
    cases h
    exact .inr ⟨by omega, rfl⟩
theorem RowsAt.snoc {B H : Hp} {r : Addr} {rows : List Row1} {y : Row1} (h : RowsAt K B H r rows) (a : SqT K B y.t [.str y.w, .int y.c, .ref y.l]) (b : B y.l = none) (c : r ≠ y.l) (d : H y.l = some (.lst [])) (e : y.rs = []) (n : ∀ (i : Nat) (z : Row1), rows[i]? = some z → z.l ≠ y.l) : RowsAt K B H r (rows ++ [y]) :=
  ⟨fun i z hz => by
    rcases get_snoc hz with ⟨h1, _⟩ | ⟨_, rfl⟩
    · exact h.at_ i z h1
    · exact ⟨a, b, c, [], d, by rw [e]; exact .nil⟩, fun i j y' z hy hz hl => by
    rcases get_snoc hy with ⟨h1, k1⟩ | ⟨k1, rfl⟩ <;> rcases get_snoc hz with ⟨h2, k2⟩ | ⟨k2, rfl⟩
    · exact h.inj i j _ _ h1 h2 hl
    · exact absurd hl (n _ _ h1)
    · exact absurd hl.symm (n _ _ h2)
    · omega⟩
theorem get_set {α : Type} {xs : List α} {x y : α} {i j : Nat} (h : (xs.set j x)[i]? = some y) : (i = j ∧ y = x) ∨ (i ≠ j ∧ xs[i]? = some y) := by
  by_cases hi : j = i
  · subst hi
    rw [List.getElem?_set_self'] at h
    cases hx : xs[j]? with
    | none =>
      rw [hx] at h
      cases h
    | some z =>
      rw [hx] at h
      cases h
      exact .inl ⟨rfl, rfl⟩
  · rw [List.getElem?_set_ne hi] at h
    exact .inr ⟨fun e => hi e.symm, h⟩
theorem map_set_same {α β : Type} {xs : List α} {x y : α} {j : Nat} {f : α → β} (h : xs[j]? = some y) (e : f x = f y) : (xs.set j x).map f = xs.map f := by
  rw [List.map_set, e]
  refine List.ext_getElem? fun i => ?_
  by_cases hi : j = i
  · subst hi
    rw [List.getElem?_set_self', List.getElem?_map, h]
    rfl
  · rw [List.getElem?_set_ne hi]
theorem sum_set {α : Type} {f : α → Nat} : ∀ {xs : List α} {x y : α} {j : Nat}, xs[j]? = some y → f x = f y + 1 → ((xs.set j x).map f).sum = (xs.map f).sum + 1
  | [], _, _, _, h, _ => by cases h
  | z :: xs, x, y, 0, h, e => by
    cases h
    simp [e]
    omega
  | z :: xs, x, y, j + 1, h, e => by
    have := sum_set (xs := xs) (x := x) (y := y) (j := j) (by simpa using h) e
    rw [List.set_cons_succ, List.map_cons, List.map_cons, List.sum_cons, List.sum_cons, this]
    omega
/-- a read more at the j-th row -/
theorem RowsAt.put {B H : Hp} {r : Addr} {rows : List Row1} {y : Row1} {j : Nat} {rd : Rd1} {v : V} {xs : List V} (h : RowsAt K B H r rows) (e : rows[j]? = some y) (hx : H y.l = some (.lst xs)) (hv : Dp K B v rd.d) :
    RowsAt K B (upd H y.l (.lst (xs ++ [v]))) r (rows.set j { y with rs := y.rs ++ [rd] }) :=
  ⟨fun i z hz => by
    rcases get_set hz with ⟨rfl, rfl⟩ | ⟨ne, hz⟩
    · obtain ⟨a1, a2, a3, xs', a4, a5⟩ := h.at_ _ y e
      rw [hx] at a4
      cases a4
      refine ⟨a1, a2, a3, xs ++ [v], upd_same, ?_⟩
      show DpAll K B (xs ++ [v]) ((y.rs ++ [rd]).map Rd1.d)
      rw [List.map_append]
      exact dps_snoc a5 hv
    · obtain ⟨a1, a2, a3, xs', a4, a5⟩ := h.at_ _ z hz
      refine ⟨a1, a2, a3, xs', ?_, a5⟩
      rw [upd_ne fun hl => ne (h.inj i j z y hz e hl)]
      exact a4, fun i i' z z' hz hz' hl => by
    rcases get_set hz with ⟨rfl, rfl⟩ | ⟨ne, hz1⟩ <;> rcases get_set hz' with ⟨rfl, rfl⟩ | ⟨ne', hz2⟩
    · rfl
    · exact h.inj _ _ y z' e hz2 hl
    · exact h.inj _ _ z y hz1 e hl
    · exact h.inj _ _ z z' hz1 hz2 hl⟩
theorem RowsAt.dr {B H H' : Hp} {r : Addr} {m : Nat} {rows : List Row1} (h : RowsAt K B H r rows) (d : Dr r m H H') : RowsAt K B H' r rows := h.step same_refl fun j y hy => ⟨(h.at_ j y hy).2.1, d.ne _ (h.at_ j y hy).2.2.1.symm⟩
theorem RowsAt.new {B H : Hp} {r p : Addr} {o : HO} {rows : List Row1} (h : RowsAt K B H r rows) (e : H p = none) : RowsAt K B (upd H p o) r rows := h.step same_refl fun j y hy => by
  obtain ⟨a1, a2, a3, xs, a4, a5⟩ := h.at_ j y hy
  exact ⟨a2, upd_ne (ne_of_none a4 e)⟩
theorem dps_of {α : Type} {H : Hp} {f : α → V} {g : α → PyData} : ∀ {xs : List α}, (∀ x ∈ xs, Dp K H (f x) (g x)) → DpAll K H (xs.map f) (xs.map g)
  | [], _ => .nil
  | x :: xs, h => .cons (h x List.mem_cons_self) (dps_of fun y hy => h y (List.mem_cons_of_mem _ hy))
theorem yes_if {σ : L2.St} {H : Hp} {A B : Hp → Prop} (h : A H) : tYes σ H (fun b H3 => if b = true then A H3 else B H3) := by
  show (if true = true then A H else B H)
  rw [if_pos rfl]
  exact h
theorem mem_le_sum {α : Type} {f : α → Nat} : ∀ {xs : List α} {x : α}, x ∈ xs → f x ≤ (xs.map f).sum
  | [], _, h => by cases h
  | y :: xs, x, h => by
    rw [List.map_cons, List.sum_cons]
    rcases List.mem_cons.mp h with rfl | h
    · omega
    · have := mem_le_sum (f := f) h
      omega
theorem sum_zero {α : Type} {f : α → Nat} : ∀ {xs : List α}, (∀ x ∈ xs, f x = 0) → (xs.map f).sum = 0
  | [], _ => rfl
  | x :: xs, h => by
    rw [List.map_cons, List.sum_cons, h x List.mem_cons_self, sum_zero fun y hy => h y (List.mem_cons_of_mem _ hy)]
theorem RS.vec {r q : Addr} {m m' : Nat} {B H H' : Hp} {o : HO} (h : RS r m B H) (e : RS r m' (upd (cutr H r) q o) H') (n : cutr H r q = none) (k : r ≠ q) : RS r m' (upd B q o) H' ∧ B q = none ∧ H q = none ∧ ∀ b, b ≠ r → H b ≠ none → H' b = H b := by
  have hq : H q = none := by
    rw [cutr_ne k.symm] at n
    exact n
  have keep : ∀ b, b ≠ r → H b ≠ none → H' b = H b := fun b nb hb => by
    cases ho : H b with
    | none => exact absurd ho hb
    | some o' =>
      refine e.s b o' ?_
      rw [upd_ne (ne_of_none ho hq), cutr_ne nb]
      exact ho
  refine ⟨⟨fun b x hx => ?_, by rw [upd_ne k]; exact h.n, e.ok⟩, free_of h.s hq, hq, keep⟩
  by_cases hb : b = q
  · rw [hb, upd_same] at hx
    rw [hb]
    exact e.s q x (by rw [upd_same]; exact hx)
  · rw [upd_ne hb] at hx
    have hH := h.s b x hx
    rw [keep b (ne_of_none hx h.n) (by rw [hH]; exact fun z => by cases z)]
    exact hH
/-- a list of data that may still be changed -/
def LD (K : PySem.W.Frag) (H : Hp) (l : Addr) (ds : List PyData) : Prop := ∃ xs, H l = some (.lst xs) ∧ DpAll K H xs ds
theorem LD.dp {H : Hp} {l : Addr} {ds : List PyData} (h : LD K H l ds) : Dp K H (.ref l) (.list ds) := by
  obtain ⟨xs, h1, h2⟩ := h
  exact .lst (Or.inl (Or.inl h1)) h2
theorem LD.grow {H H' : Hp} {l : Addr} {ds : List PyData} (h : LD K H l ds) (e : Same H H') : LD K H' l ds := by
  obtain ⟨xs, h1, h2⟩ := h
  exact ⟨xs, e _ _ h1, dpsm e _ _ h2⟩
/-- numbers within bounds -/
structure SmT (t : Tb) : Prop where
  c : -99 ≤ t.c ∧ t.c ≤ 99
  f : ∀ rd ∈ t.rs, -10 ≤ rd.f ∧ rd.f ≤ 10
  v : ∀ rd ∈ t.rs, ∀ x ∈ rd.v, -1000 ≤ x ∧ x ≤ 1000
def spRows (K : PySem.W.Frag) : Sp := fun vs H Q _ => ∃ (r : Addr) (dims many most wide : Int) (m : Nat) (B : Hp), vs = [.ref r, .int dims, .int many, .int most, .int wide] ∧ RS r m B H ∧ 1 ≤ dims ∧ dims ≤ 3 ∧ 1 ≤ many ∧ many ≤ 6 ∧ 0 ≤ most ∧ most ≤ 12 ∧ 0 ≤ wide ∧ wide ≤ 1000 ∧ m ≤ 2 ^ 58 ∧
  ∀ p B' H' (ts : List Tb), Same B B' → RS r (m + 1000) B' H' → LD K B' p (ts.map Tb.d) → (ts.length : Int) = many → OkT dims ts → (∀ t ∈ ts, PyData.strOk t.n = true) → (∀ t ∈ ts, SmT t) → ((∀ t ∈ ts, t.n ∈ W0) ∨ ∀ t ∈ ts, t.n ∈ W0.map row5) → (((ts.map fun t => t.rs.length).sum : Nat) : Int) ≤ most → Q (.ref p) H'
theorem ok_made_rows {f : Addr} {fd : FuncData} (F : Fun K "_law_made_rows" "_law_made_rows" s_Lmade_rows f fd) (T : Txt mg) (c_Ldraw : C8.Cal P w K mg base 1 "_law_draw" spDraw []) (c_Lmixed : C8.Cal P w K mg base 2 "_law_mixed" (spMixed K) []) (c_Lvector : C8.Cal P w K mg base 2 "_law_vector" (spVector K) []) : FnOk P w K mg base CX0 3 f fd ["_law_rng_here", "_law_dims", "_law_many", "_law_most", "_law_wide"] (spRows K) := by
  refine F.ok sc_Lmade_rows (fun vs H Q E h => ?_) (fun cdv A outer sh H vs Q E hr h => ?_)
  · obtain ⟨r, dims, many, most, wide, m, B, rfl, _⟩ := h
    rfl
  · obtain ⟨r, dims, many, most, wide, m, B, rfl, R, hd1, hd3, hn1, hn6, hm0, hm12, hw0, hw1, hm, q⟩ := h
    refine ⟨_, (pss_cons (ps_set (i := 5) sc_Lmade_rows.nd rfl (by first | exact Or.inl rfl | exact Or.inr rfl) (pe_slice sl_list (C8.pe_c c_Lmixed hr (by decide) (by rfl) (pa_cons (pv 0) (pa_cons (pe_lst (pa_cons pe_str (pa_cons pe_str (pa_cons pe_str (pa_cons pe_str (pa_cons pe_str (pa_cons pe_str pa_nil))))))) pa_nil))) po_none (po_some (pv 2))))
  (pss_cons (ps_csq (ps_if (pt_cmpR op_eq (C8.pe_c c_Ldraw hr (by decide) (by rfl) (pa_cons (pv 0) (pa_cons pe_int pa_nil))) pe_int (nomark _))
    (pss_one (ps_setLc (i := 5) (own := [("_law_word", 6)]) (g := gName 6) (tt := tYes) (by rfl) sc_Lmade_rows.nd rfl rfl (sw_true rfl rfl rfl (by decide +kernel)) (pi_list (pv 5)) (blkOk_by (N := ["_law_rng_here", "_law_dims", "_law_many", "_law_most", "_law_wide", "_law_words", "_law_word", "_law_rows", "_law_turn", "_law_number", "_law_some", "_law_factor"]) (sc := defScope s_Lmade_rows) (by decide +kernel)) (fun _ _ _ _ _ => (pg_name (i := 6) sc_Lmade_rows.nd rfl (by first | exact Or.inl rfl | exact Or.inr rfl))) (fun _ _ _ _ _ => pts_nil) (fun _ _ _ _ _ => (pe_op op_add_str pe_str (pe_slice sl_str (pv 6) po_none (po_some pe_int))))))
    pss_nil))
  (pss_cons (ps_setLc (i := 7) (own := [("_law_word", 6)]) (g := gName 6) (tt := tYes) (by rfl) sc_Lmade_rows.nd rfl rfl (sw_true rfl rfl rfl (by decide +kernel)) (pi_list (pv 5)) (blkOk_by (N := ["_law_rng_here", "_law_dims", "_law_many", "_law_most", "_law_wide", "_law_words", "_law_word", "_law_rows", "_law_turn", "_law_number", "_law_some", "_law_factor"]) (sc := defScope s_Lmade_rows) (by decide +kernel)) (fun _ _ _ _ _ => (pg_name (i := 6) sc_Lmade_rows.nd rfl (by first | exact Or.inl rfl | exact Or.inr rfl))) (fun _ _ _ _ _ => pts_nil) (fun _ _ _ _ _ => (pe_tup (pa_cons (pv 6) (pa_cons (pe_op op_sub (C8.pe_c c_Ldraw hr (by decide) (by rfl) (pa_cons (pv 0) (pa_cons pe_int pa_nil))) pe_int) (pa_cons (pe_lst pa_nil) pa_nil))))))
  (pss_cons (ps_for PassesOwn.never rfl (pi_range1 (by rfl) T.b_range (pa_cons (C8.pe_c c_Ldraw hr (by decide) (by rfl) (pa_cons (pv 0) (pa_cons (pe_op op_add (pv 3) pe_int) pa_nil))) pa_nil)) (pg_name (i := 8) sc_Lmade_rows.nd rfl (by first | exact Or.inl rfl | exact Or.inr rfl))
    (pss_cons (ps_asg (pe_ix ix_list (pv 7) (C8.pe_c c_Ldraw hr (by decide) (by rfl) (pa_cons (pv 0) (pa_cons (pv 2) pa_nil))) (fun _ _ => rfl)) (pg_tup rfl (pgs_cons (pg_name (i := 6) sc_Lmade_rows.nd rfl (by first | exact Or.inl rfl | exact Or.inr rfl)) (pgs_cons (pg_name (i := 9) sc_Lmade_rows.nd rfl (by first | exact Or.inl rfl | exact Or.inr rfl)) (pgs_cons (pg_name (i := 10) sc_Lmade_rows.nd rfl (by first | exact Or.inl rfl | exact Or.inr rfl)) pgs_nil)))))
    (pss_cons (ps_set (i := 11) sc_Lmade_rows.nd rfl (by first | exact Or.inl rfl | exact Or.inr rfl) (pe_ix ix_list (pe_lst (pa_cons pe_int (pa_cons (pe_un un_neg pe_int) (pa_cons (pe_op op_add pe_int (C8.pe_c c_Ldraw hr (by decide) (by rfl) (pa_cons (pv 0) (pa_cons pe_int pa_nil)))) (pa_cons (pe_op op_sub (pe_op op_sub pe_int pe_int) (C8.pe_c c_Ldraw hr (by decide) (by rfl) (pa_cons (pv 0) (pa_cons pe_int pa_nil)))) pa_nil))))) (C8.pe_c c_Ldraw hr (by decide) (by rfl) (pa_cons (pv 0) (pa_cons pe_int pa_nil))) (fun _ _ => rfl)))
    (pss_one (ps_expr (pe_bm PySem.F.plainAttrs_list PySem.F.slot_list_append PySem.F.type_list_append mt_append (pv 10) (pa_cons (pe_tup (pa_cons (pe_ix ix_list (pv 5) (C8.pe_c c_Ldraw hr (by decide) (by rfl) (pa_cons (pv 0) (pa_cons (pv 2) pa_nil))) (fun _ _ => rfl)) (pa_cons (C8.pe_c c_Lvector hr (by decide) (by rfl) (pa_cons (pv 0) (pa_cons (pv 1) (pa_cons (pv 4) pa_nil)))) (pa_cons (pv 11) pa_nil)))) pa_nil)))))))
  (pss_one (ps_ret (pv 7))))))), ?_⟩
    -- the words
    refine ⟨_, rfl, (by show 6 ≤ sizeLine; decide), fun p0 hp0 => ?_⟩
    have bp0 := free_of R.s hp0
    have rp0 := R.ne hp0
    have R0 : RS r m (upd B p0 (.lst (W0.map V.str))) (upd H p0 (.lst (W0.map V.str))) := (R.new hp0).keep upd_same bp0 rp0
    refine ⟨r, p0, m, _, W0.map V.str, W0.map PyData.str, rfl, R0, Or.inl (Or.inl upd_same), strs_dps _, ?_, by decide, by omega, fun p1 H1 ys es b1 r1 pm dys R1 => ?_⟩
    · intro d hd
      obtain ⟨x, _, rfl⟩ := List.mem_map.mp hd
      exact ⟨by simp only [PyData.canLay0]; exact (W0_names x (by assumption)).2.2.2.1, by simp [PyData.depth]⟩
    have s01 : Same B (upd (upd B p0 (.lst (W0.map V.str))) p1 (.lst ys)) := same_tr (snew bp0) (snew b1)
    have b1at : (upd (upd B p0 (.lst (W0.map V.str))) p1 (.lst ys)) p1 = some (.lst ys) := upd_same
    obtain ⟨ws0, rfl, pw⟩ := perm_words pm
    obtain rfl := dps_strs dys
    generalize upd (upd B p0 (.lst (W0.map V.str))) p1 (.lst (ws0.map V.str)) = B1 at R1 s01 b1at
    have hwl : ws0.length = 6 := pw.length_eq.symm
    refine ⟨_, rfl, many, rfl, p1, _, rfl, Or.inl (Or.inl (R1.s _ _ b1at)), fun p2 hp2 => ?_⟩
    have ecut : cutV (ws0.map V.str) none (some many) = (ws0.take many.toNat).map V.str := by
      have h := cut_to (ws0.map V.str) many.toNat (by rw [List.length_map]; omega)
      rw [Int.toNat_of_nonneg (by omega)] at h
      rw [h, List.map_take]
    rw [ecut]
    have R2 := (R1.new (o := .lst ((ws0.take many.toNat).map V.str)) hp2).keep upd_same (free_of R1.s hp2) (R1.ne hp2)
    have s02 : Same B (upd B1 p2 (.lst ((ws0.take many.toNat).map V.str))) := same_tr s01 (snew (free_of R1.s hp2))
    have b2at : (upd B1 p2 (.lst ((ws0.take many.toNat).map V.str))) p2 = some (.lst ((ws0.take many.toNat).map V.str)) := upd_same
    generalize upd B1 p2 (.lst ((ws0.take many.toNat).map V.str)) = B2 at R2 s02 b2at
    generalize upd H1 p2 (.lst ((ws0.take many.toNat).map V.str)) = H2 at R2
    -- the if
    refine ⟨fun σ H' => ∃ (wl : Addr) (B' : Hp) (ws : List Str), σ = [some (.ref r), some (.int dims), some (.int many), some (.int most), some (.int wide), some (.ref wl), none, none, none, none, none, none] ∧ RS r (m + 7) B' H' ∧ Same B B' ∧ B' wl = some (.lst (ws.map V.str)) ∧ Words ws many.toNat, ?_, ?_⟩
    · rintro σ H3 ⟨wl, B', ws, rfl, R3, s3, hws, W⟩
      have wlen : ws.length ≤ 6 := by
        have := W.len
        omega
      refine ⟨_, rfl, wl, rfl, ⟨_, Or.inl (Or.inl (R3.s _ _ hws))⟩, fun D hD => lc_it (walk_list (K := K) (a := wl) (xs := ws.map V.str)) (fun i H' => ∃ (B2 : Hp) (rows : List Row1), Same B' B2 ∧ RS r (m + 7 + i) B2 H' ∧ RowsAt K B2 H' r rows ∧ rows.map (·.w) = ws.take i ∧ (∀ y ∈ rows, y.rs = [] ∧ -99 ≤ y.c ∧ y.c ≤ 99) ∧ H' D = some (.lst (rows.map fun y => V.ref y.t)) ∧ B2 D = none ∧ (∀ y ∈ rows, y.l ≠ D))
        ⟨B', [], same_refl, R3.new hD, ⟨fun i y h => (by cases h), fun i j y z h => (by cases h)⟩, rfl, (by intro y h; cases h), upd_same, free_of R3.s hD, (by intro y h; cases h)⟩ (fun i H' _ ⟨B2, rows, b1, b2, _⟩ => Or.inl (Or.inl (b2.s _ _ (b1 _ _ hws)))) ?_ ?_⟩
      · rintro i x _ H4 hi ⟨B2, rows, b1, b2, b3, b4, b5, b6, b7, b8⟩ ⟨rfl, hx⟩
        rw [List.length_map] at hi
        rw [List.getElem?_map] at hx
        obtain ⟨wd, hwd, rfl⟩ := Option.map_eq_some_iff.mp hx
        have hrl : rows.length = i := by
          have := congrArg List.length b4
          rw [List.length_map, List.length_take] at this
          omega
        have rD := R3.ne hD
        refine ⟨rfl, yes_if ?_⟩
        refine ⟨_, rfl, _, rfl, r, _, _, rfl, b2.ok, by omega, by decide, by decide, fun d H6 d0 d1 D6 => ⟨_, _, rfl, rfl, Nat.zero_le _, fun l hl => ⟨(by show 3 ≤ sizeLine; decide), fun t ht => ?_⟩⟩⟩
        have R6 := b2.dr D6
        have R7 := R6.new (o := .lst []) hl
        have D7 : (upd H6 l (.lst [])) D = some (.lst (rows.map fun y => V.ref y.t)) := by
          have h6 : H6 D = some (.lst (rows.map fun y => V.ref y.t)) := by rw [D6.ne _ rD.symm]; exact b6
          rw [upd_ne (ne_of_none h6 hl)]
          exact h6
        have lD : l ≠ D := fun z => by
          rw [z, D6.ne _ rD.symm, b6] at hl
          cases hl
        have tD : t ≠ D := fun z => by
          rw [z, D7] at ht
          cases ht
        have tl : t ≠ l := fun z => by
          rw [z, upd_same] at ht
          cases ht
        have bt : B2 t = none := free_of R7.s ht
        have bl : B2 l = none := free_of R6.s hl
        have R8 := (R7.new (o := .tup [.str wd, .int (d - 99), .ref l]) ht).keep upd_same bt (R7.ne ht)
        have b8D : (upd B2 t (.tup [.str wd, .int (d - 99), .ref l])) D = none := by rw [upd_ne tD.symm]; exact b7
        refine ⟨_, by rw [upd_ne tD.symm]; exact D7, small1000 (by rw [List.length_map]; omega), ?_⟩
        have hold : ∀ (j : Nat) (y : Row1), rows[j]? = some y → y.l ≠ D ∧ y.l ≠ l ∧ y.l ≠ t ∧ H6 y.l = H4 y.l := fun j y hy => by
          obtain ⟨a1, a2, a3, xs, a4, a5⟩ := b3.at_ j y hy
          have e6 : H6 y.l = H4 y.l := D6.ne _ a3.symm
          have h6 : H6 y.l = some (.lst xs) := by rw [e6]; exact a4
          have n1 := ne_of_none h6 hl
          refine ⟨b8 y (List.mem_of_getElem? hy), n1, ?_, e6⟩
          exact ne_of_none (by rw [upd_ne n1]; exact h6) ht
        refine ⟨upd B2 t (.tup [.str wd, .int (d - 99), .ref l]), rows ++ [⟨t, wd, d - 99, l, []⟩], same_tr b1 (snew bt), (R8.put b8D rD), ?_, ?_, ?_, ?_, b8D, ?_⟩
        · refine RowsAt.snoc (b3.step (snew bt) fun j y hy => ?_) (Or.inl (Or.inl upd_same)) ?_ (R6.ne hl) ?_ rfl fun j z hz => (hold j z hz).2.1
          · obtain ⟨n1, n2, n3, n4⟩ := hold j y hy
            refine ⟨?_, ?_⟩
            · rw [upd_ne n3]
              exact (b3.at_ j y hy).2.1
            · rw [upd_ne n1, upd_ne n3, upd_ne n2]
              exact n4
          · show (upd B2 t _) l = none
            rw [upd_ne tl.symm]
            exact bl
          · show (upd (upd (upd H6 l (.lst [])) t _) D _) l = _
            rw [upd_ne lD, upd_ne tl.symm, upd_same]
        · rw [List.map_append, b4, List.take_add_one, hwd]
          rfl
        · intro y hy
          rcases List.mem_append.mp hy with h | h
          · exact b5 y h
          · rw [List.mem_singleton.mp h]
            exact ⟨rfl, (by show -99 ≤ d - 99; omega), (by show d - 99 ≤ 99; omega)⟩
        · rw [upd_same, List.map_append]
          rfl
        · intro y hy
          rcases List.mem_append.mp hy with h | h
          · exact b8 y h
          · rw [List.mem_singleton.mp h]
            exact lD
      · rintro H4 ⟨B2, rows, b1, b2, b3, b4, b5, b6, b7, b8⟩
        rw [List.length_map, List.take_length] at b4
        rw [List.length_map] at b2
        have rD := R3.ne hD
        have R4 := b2.keep b6 b7 rD
        have M4 := b3.step (B' := upd B2 D (.lst (rows.map fun y => V.ref y.t))) (H' := H4) (snew b7) fun j y hy => ⟨by rw [upd_ne (b8 y (List.mem_of_getElem? hy))]; exact (b3.at_ j y hy).2.1, rfl⟩
        have B4D : (upd B2 D (.lst (rows.map fun y => V.ref y.t))) D = some (.lst (rows.map fun y => V.ref y.t)) := upd_same
        have s4 : Same B' (upd B2 D (.lst (rows.map fun y => V.ref y.t))) := same_tr b1 (snew b7)
        generalize upd B2 D (.lst (rows.map fun y => V.ref y.t)) = B4 at R4 M4 B4D s4
        have hrl : rows.length = ws.length := by
          have := congrArg List.length b4
          rw [List.length_map] at this
          exact this
        have s0 : (rows.map fun y => y.rs.length).sum = 0 := sum_zero fun y hy => by rw [(b5 y hy).1]; rfl
        have wmany : (ws.length : Int) = many := by
          have := W.len
          omega
        refine ⟨_, rfl, _, rfl, _, _, rfl, rfl, r, _, _, rfl, R4.ok, by omega, by omega, by omega, fun d H5 d0 d1 D5 => ⟨d, rfl, by omega, by omega, ?_⟩⟩
        refine for_range (fun i σ H' => ∃ (B5 : Hp) (rows' : List Row1) (y6 y8 y9 y10 y11 : Option V), σ = [some (.ref r), some (.int dims), some (.int many), some (.int most), some (.int wide), some (.ref wl), y6, some (.ref D), y8, y9, y10, y11] ∧ RS r (m + 20 + 20 * i) B5 H' ∧ RowsAt K B5 H' r rows' ∧ Same B4 B5 ∧ rows'.map (·.w) = ws ∧ rows'.map (fun y => V.ref y.t) = rows.map (fun y => V.ref y.t) ∧ (rows'.map fun y => y.rs.length).sum = i ∧ ∀ y ∈ rows', (-99 ≤ y.c ∧ y.c ≤ 99) ∧ ∀ rd ∈ y.rs, isRead dims rd = true ∧ rd.t ∈ ws ∧ (-10 ≤ rd.f ∧ rd.f ≤ 10) ∧ ∀ x ∈ rd.v, -1000 ≤ x ∧ x ≤ 1000)
          ⟨B4, rows, none, none, none, none, none, rfl, (R4.dr D5).mono (by omega), M4.step same_refl fun j y hy => ⟨(M4.at_ j y hy).2.1, D5.ne _ (M4.at_ j y hy).2.2.1.symm⟩, same_refl, b4, rfl, s0, fun y hy => ⟨(b5 y hy).2, fun rd hrd => by
            rw [(b5 y hy).1] at hrd
            cases hrd⟩⟩ ?_ ?_
        · rintro i σ H6 hi ⟨B5, rows', y6, y8, y9, y10, y11, rfl, R5, M5, s5, e1, e2, e3, e4⟩
          have hi12 : i < 12 := by omega
          have hrl' : rows'.length = ws.length := by
            have := congrArg List.length e1
            rw [List.length_map] at this
            exact this
          -- the row
          refine ⟨_, rfl, _, rfl, _, rfl, r, many, _, rfl, R5.ok, by omega, by omega, by omega, fun k1 H7 k10 k11 D7 => ?_⟩
          have R7 := R5.dr D7
          have M7 := M5.step (H' := H7) same_refl fun j y hy => ⟨(M5.at_ j y hy).2.1, D7.ne _ (M5.at_ j y hy).2.2.1.symm⟩
          obtain ⟨v, a1, _, a3⟩ := atI_in (xs := rows'.map fun y => V.ref y.t) k10 (by rw [List.length_map]; omega)
          rw [List.getElem?_map] at a3
          obtain ⟨y, hy, rfl⟩ := Option.map_eq_some_iff.mp a3
          obtain ⟨c1, c2, c3, xs, c4, c5⟩ := M7.at_ _ y hy
          refine ⟨D, _, k1, _, rfl, rfl, Or.inl (Or.inl (R7.s _ _ (s5 _ _ B4D))), by rw [← e2]; exact a1, y.t, _, rfl, sqt R7.s c1, rfl, _, _, rfl, _, _, rfl, _, _, rfl, rfl, ?_⟩
          -- the factor
          refine ⟨1, rfl, _, rfl, r, 9, _, rfl, R7.ok, by omega, by decide, by decide, fun k2 H8 k20 k21 D8 => ⟨_, _, rfl, rfl, _, _, rfl, rfl, ?_⟩⟩
          have R8 := R7.dr D8
          have M8 := M7.dr D8
          refine ⟨_, rfl, r, 9, _, rfl, R8.ok, by omega, by decide, by decide, fun k3 H9 k30 k31 D9 => ⟨_, _, rfl, rfl, (by show 4 ≤ sizeLine; decide), fun p hp => ?_⟩⟩
          have R9 := R8.dr D9
          have M9 := M8.dr D9
          have p10 : (upd H9 p (.lst [.int 1, .int (-1), .int (1 + k2), .int (0 - 1 - k3)])) p = some (.lst ([1, -1, 1 + k2, 0 - 1 - k3].map V.int)) := upd_same
          have R10 := R9.new (o := .lst [.int 1, .int (-1), .int (1 + k2), .int (0 - 1 - k3)]) hp
          have M10 := M9.new (o := .lst [.int 1, .int (-1), .int (1 + k2), .int (0 - 1 - k3)]) hp
          have rp := R9.ne hp
          refine ⟨_, rfl, r, 4, _, rfl, R10.ok, by omega, by decide, by decide, fun k4 H11 k40 k41 D11 => ?_⟩
          have R11 := R10.dr D11
          have M11 := M10.dr D11
          have p11 : H11 p = some (.lst ([1, -1, 1 + k2, 0 - 1 - k3].map V.int)) := by rw [D11.ne _ rp.symm]; exact p10
          obtain ⟨fv, f1, f2, _⟩ := atI_in (xs := [1, -1, 1 + k2, 0 - 1 - k3].map V.int) k40 k41
          obtain ⟨fc, f3, rfl⟩ := List.mem_map.mp f2
          have hfc : fc ≠ 0 ∧ -10 ≤ fc ∧ fc ≤ 10 := by
            simp only [List.mem_cons, List.not_mem_nil, or_false] at f3
            omega
          refine ⟨p, _, k4, _, rfl, rfl, Or.inl (Or.inl p11), f1, ?_⟩
          -- the append
          obtain ⟨g1, g2, g3, xs2, g4, g5⟩ := M11.at_ _ y hy
          refine ⟨_, rfl, Or.inl ⟨rfl, _, Or.inl (Or.inl g4)⟩, _, rfl, _, rfl, _, rfl, r, many, _, rfl, R11.ok, by omega, by omega, by omega, fun k5 H12 k50 k51 D12 => ?_⟩
          have R12 := R11.dr D12
          have M12 := M11.dr D12
          obtain ⟨tv, t1, _, t3⟩ := atI_in (xs := ws.map V.str) k50 (by rw [List.length_map]; omega)
          rw [List.getElem?_map] at t3
          obtain ⟨tw, htw, rfl⟩ := Option.map_eq_some_iff.mp t3
          refine ⟨wl, _, k5, _, rfl, rfl, Or.inl (Or.inl (R12.s _ _ (s5 _ _ (s4 _ _ hws)))), t1, ?_⟩
          refine ⟨_, rfl, _, rfl, _, rfl, r, dims, wide, _, cutr H12 r, rfl, RS.cut R12.ok, by omega, by omega, by omega, by omega, by omega, fun q1 H13 vec hq1 rq1 hvl hvb R13 => ?_⟩
          obtain ⟨R13', bq, hq12, keep⟩ := R12.vec R13 hq1 rq1
          have M13 := M12.step (B' := upd B5 q1 (.tup (vec.map V.int))) (H' := H13) (snew bq) fun j z hz => by
            obtain ⟨a1, a2, a3, xs, a4, a5⟩ := M12.at_ j z hz
            refine ⟨?_, keep _ a3.symm (by rw [a4]; exact fun z => by cases z)⟩
            rw [upd_ne (ne_of_none a4 hq12)]
            exact a2
          refine ⟨_, rfl, (by show 3 ≤ sizeLine; decide), fun u hu => ?_⟩
          have bu := free_of R13'.s hu
          have R14 := (R13'.new (o := .tup [.str tw, .ref q1, .int fc]) hu).keep upd_same bu (R13'.ne hu)
          have M14 := M13.step (B' := upd (upd B5 q1 (.tup (vec.map V.int))) u (.tup [.str tw, .ref q1, .int fc])) (H' := upd H13 u (.tup [.str tw, .ref q1, .int fc])) (snew bu) fun j z hz => by
            obtain ⟨a1, a2, a3, xs, a4, a5⟩ := M13.at_ j z hz
            have n := ne_of_none a4 hu
            exact ⟨by rw [upd_ne n]; exact a2, upd_ne n⟩
          obtain ⟨m1, m2, m3, xs4, m4, m5⟩ := M14.at_ _ y hy
          have lsm : xs4.length ≤ 12 := by
            have h1 := dps_len m5
            rw [List.length_map] at h1
            have h2 : y.rs.length ≤ (rows'.map fun y => y.rs.length).sum := mem_le_sum (f := fun y : Row1 => y.rs.length) (List.mem_of_getElem? hy)
            omega
          have nqu : q1 ≠ u := fun z => by
            rw [z, upd_same] at bu
            cases bu
          refine ⟨y.l, xs4, _, rfl, rfl, m4, small1000 (by omega), ?_⟩
          have hdp : Dp K (upd (upd B5 q1 (.tup (vec.map V.int))) u (.tup [.str tw, .ref q1, .int fc])) (.ref u) (Rd1.d ⟨tw, vec, fc⟩) := .tup (Or.inl (Or.inl upd_same)) (.cons (.str _) (.cons (.tup (Or.inl (Or.inl (by rw [upd_ne nqu]; exact upd_same))) (ints_dps _)) (.cons (.int _) .nil)))
          refine ⟨_, rows'.set k1.toNat { y with rs := y.rs ++ [⟨tw, vec, fc⟩] }, _, _, _, _, _, rfl, (R14.put m2 m3).mono (by omega), M14.put hy m4 hdp, same_tr s5 (same_tr (snew bq) (snew bu)), ?_, ?_, ?_, ?_⟩
          · exact (map_set_same hy (by rfl)).trans e1
          · exact (map_set_same hy (by rfl)).trans e2
          · exact (sum_set hy (by show (y.rs ++ [_]).length = _; rw [List.length_append]; rfl)).trans (by rw [e3])
          · intro z hz
            rcases List.mem_or_eq_of_mem_set hz with h | rfl
            · exact e4 z h
            · refine ⟨(e4 y (List.mem_of_getElem? hy)).1, fun rd hrd => ?_⟩
              rcases List.mem_append.mp hrd with h | h
              · exact (e4 y (List.mem_of_getElem? hy)).2 rd h
              · rw [List.mem_singleton.mp h]
                have hm := List.mem_of_getElem? htw
                refine ⟨?_, hm, hfc.2, hvb⟩
                unfold isRead
                rw [Bool.and_eq_true, Bool.and_eq_true]
                exact ⟨W.names _ hm, decide_eq_true hvl, by rw [decide_eq_false hfc.1]; rfl⟩
        · rintro σ H6 ⟨B5, rows', y6, y8, y9, y10, y11, rfl, R5, M5, s5, e1, e2, e3, e4⟩
          have hrl' : rows'.length = ws.length := by
            have := congrArg List.length e1
            rw [List.length_map] at this
            exact this
          have sc : ∀ {X : Hp}, Same X H6 → X r = none → Same X (cutr H6 r) := fun {X} e n b o h => by
            rw [cutr_ne (ne_of_none h n)]
            exact e b o h
          have s6 := sc R5.s R5.n
          refine ⟨_, rfl, q D (cutr H6 r) H6 (rows'.map Row1.tb) (same_tr s3 (same_tr s4 (same_tr s5 s6))) ((RS.cut R5.ok).mono (by omega)) ⟨_, s6 _ _ (s5 _ _ B4D), ?_⟩ (by rw [List.length_map]; omega) ?_ ?_ ?_ ?_ ?_⟩
          · rw [← e2, List.map_map]
            refine dps_of fun y hy => ?_
            obtain ⟨j, hj⟩ := List.mem_iff_getElem?.mp hy
            obtain ⟨a1, a2, a3, xs, a4, a5⟩ := M5.at_ j y hj
            exact .tup (sqt s6 a1) (.cons (.str _) (.cons (.int _) (.cons (.lst (Or.inl (Or.inl (by rw [cutr_ne a3.symm]; exact a4))) (dpsm s6 _ _ a5)) .nil)))
          · have en : (rows'.map Row1.tb).map (·.n) = ws := by
              rw [List.map_map]
              exact e1
            refine ⟨?_, by rw [en]; exact W.nodup, ?_, ?_, ?_⟩
            · intro t ht
              exact W.names _ (by rw [← en]; exact List.mem_map.mpr ⟨t, ht, rfl⟩)
            · rw [List.map_map]
              have : (rows'.map fun y => y.rs.length).sum ≤ 12 := by omega
              exact this
            · intro t ht rd hrd
              obtain ⟨y, hy, rfl⟩ := List.mem_map.mp ht
              exact ((e4 y hy).2 rd hrd).1
            · intro t ht rd hrd
              obtain ⟨y, hy, rfl⟩ := List.mem_map.mp ht
              rw [en]
              exact ((e4 y hy).2 rd hrd).2.1
          · intro t ht
            obtain ⟨y, hy, rfl⟩ := List.mem_map.mp ht
            exact W.oks _ (by rw [← e1]; exact List.mem_map.mpr ⟨y, hy, rfl⟩)
          · intro t ht
            obtain ⟨y, hy, rfl⟩ := List.mem_map.mp ht
            exact ⟨(e4 y hy).1, fun rd hrd => ((e4 y hy).2 rd hrd).2.2.1, fun rd hrd => ((e4 y hy).2 rd hrd).2.2.2⟩
          · have hm : ∀ t ∈ rows'.map Row1.tb, t.n ∈ ws := fun t ht => by
              obtain ⟨y, hy, rfl⟩ := List.mem_map.mp ht
              rw [← e1]
              exact List.mem_map.mpr ⟨y, hy, rfl⟩
            exact W.src.imp (fun h t ht => h _ (hm t ht)) fun h t ht => h _ (hm t ht)
          · rw [List.map_map]
            have : (((rows'.map fun y => y.rs.length).sum : Nat) : Int) ≤ most := by omega
            exact this
    · refine ⟨_, rfl, r, 3, _, rfl, R2.ok, by rw [List.length_map]; show m + 6 ≤ _; omega, by decide, by decide, fun d H3 d0 d1 D => ⟨rfl, _, rfl, ?_⟩⟩
      have R3 : RS r (m + 7) B2 H3 := (R2.dr D).mono (by rw [List.length_map]; show m + 6 + 1 ≤ _; omega)
      have hmem : ∀ x ∈ ws0.take many.toNat, x ∈ W0 := fun x hx => pw.mem_iff.mpr (List.mem_of_mem_take hx)
      have htl : (ws0.take many.toNat).length = many.toNat := by
        rw [List.length_take]
        omega
      refine ite2 (fun _ => ?_) (fun _ => ?_)
      · refine ⟨_, rfl, p2, rfl, ⟨_, Or.inl (Or.inl (R3.s _ _ b2at))⟩, fun D hD => lc_flat (walk_list (K := K) (a := p2) (xs := (ws0.take many.toNat).map V.str)) (fun i => .str (row5 (nth (ws0.take many.toNat) i))) (by rw [List.length_map, htl]; omega) hD (fun H' sm => Or.inl (Or.inl (sm _ _ (R3.s _ _ b2at)))) (fun i H x H' y => yat_same y) ?_ ?_⟩
        · rintro i x H4 H5 hi sm ⟨rfl, hx⟩ R hR
          rw [List.getElem?_map] at hx
          obtain ⟨z, hz, rfl⟩ := Option.map_eq_some_iff.mp hx
          have zz := W0_names z (hmem z (List.mem_of_getElem? hz))
          refine ⟨rfl, _, rfl, 5, rfl, z, rfl, Nat.le_trans zz.2.2.1 (by rw [sizeLine_eq]; decide), _, _, rfl, rfl, Nat.le_trans (Nat.add_le_add_left zz.2.2.2.2.2 _) (by rw [sizeLine_eq]; decide +kernel), ?_⟩
          have r := hR H5 same_refl
          rw [nth_of hz] at r
          exact r
        · intro H4 sm hD4
          rw [List.length_map, nthsf] at hD4
          have R4 := (R3.grow sm).keep hD4 (free_of R3.s hD) (R3.ne hD)
          refine ⟨D, _, (ws0.take many.toNat).map row5, rfl, R4, same_tr s02 (snew (free_of R3.s hD)), upd_same, ⟨by rw [List.length_map, htl], ?_, ?_, ?_, Or.inr fun x hx => ?_⟩⟩
          · rw [List.map_take]
            exact ((pw.map row5).nodup_iff.mp W0_nodup5).sublist (List.take_sublist _ _)
          · intro x hx
            obtain ⟨z, hz, rfl⟩ := List.mem_map.mp hx
            exact (W0_names z (hmem z hz)).2.1
          · intro x hx
            obtain ⟨z, hz, rfl⟩ := List.mem_map.mp hx
            exact (W0_names z (hmem z hz)).2.2.2.2.1
          · obtain ⟨z, hz, rfl⟩ := List.mem_map.mp hx
            exact List.mem_map.mpr ⟨z, hmem z hz, rfl⟩
      · exact ⟨p2, B2, _, rfl, R3, s02, b2at, htl, (pw.nodup_iff.mp W0_nodup).sublist (List.take_sublist _ _), fun x hx => (W0_names x (hmem x hx)).1, fun x hx => (W0_names x (hmem x hx)).2.2.2.1, Or.inl hmem⟩
end
end Fr

namespace Fr
open PySem PySem.Spec PyProof.Rows L2
def kw2 {α : Type} : List α → List α → List α
  | [], [c, s] => [s, c]
  | _, _ => []
structure CalK (P : Program) (w : World) (K : PySem.W.Frag) (mg : Str → Option Value) (base : Heap) (k : Nat) (x : Str) (sp : Sp) (ks : List Str) (gV : List V → List V → List V) : Prop where
  ex : ∃ (f : Addr) (fd : FuncData) (ps : List Str) (g : List Value → List Value → List Value), FnOk P w K mg base CX0 k f fd ps sp ∧ mg x = some (.ref f) ∧ PySem.W.keepIn K (.ref f) = true ∧ KBinds K fd ps ks g gV
theorem pe_ck {X : Cx} {k j : Nat} {x : Str} {sp : Sp} {ks : List Str} {gV : List V → List V → List V} {kws : List Keyword} {tk : TA} {p pos : Pos} (c : CalK X.prog X.w X.K X.mg X.base k x sp ks gV) (hr : Room j X.A) (hk : k ≤ j) (hg : Gl X x) (hkw : PK X kws tk)
    (hall : (backToKw pos (keywordEach kws X.env)).all (·.1.isSome) = true := by rfl) (hks : (backToKw pos (keywordEach kws X.env)).filterMap (·.1) = ks := by rfl) (hdb : (x == ("__debug__" : Str)) = false := by decide)
    (hpl : ((backTo pos (starEach [] X.env)).any (·.1) || (backToKw pos (keywordEach kws X.env)).any (·.1.isNone)) = false := by rfl) :
    PE X (.Call (.Name x p) [] kws pos) (tCallK sp gV C8.E0 tNil tk) := by
  obtain ⟨f, fd, ps, g, F, hm, kp, hb⟩ := c.ex
  refine ⟨fun pins s σ H Q I h => ?_⟩
  refine wpAny_Call_Name_kw (ld_glob I hg hm ?_ hdb)
  refine PySem.W.callWith_KW0 (h₀ := X.base) I.ok.mod.kin kp hall (thn (hkw.run pos pins s σ H _ I h) fun ws s2 ⟨zs, H2, I2, rz, q2⟩ => ⟨I2.kIn, ?_⟩) hpl
  rw [hks]
  exact run_fnk (us := []) (vs := []) F (hr.mono hk) hb pass0 I2 .nil rz q2
def bs (H : Hp) (r : Addr) : Hp := fun b => if b = r then none else match H b with
  | some (.tbl _) => none
  | o => o
theorem bs_of {H : Hp} {r b : Addr} {o : HO} (h : H b = some o) (n : b ≠ r) (t : ∀ ps, o ≠ .tbl ps) : bs H r b = some o := by
  unfold bs
  rw [if_neg n, h]
  cases o <;> first | rfl | exact absurd rfl (t _)
theorem of_bs {H : Hp} {r b : Addr} {o : HO} (h : bs H r b = some o) : H b = some o ∧ b ≠ r ∧ ∀ ps, o ≠ .tbl ps := by
  unfold bs at h
  by_cases n : b = r
  · rw [if_pos n] at h
    cases h
  · rw [if_neg n] at h
    cases e : H b with
    | none =>
      rw [e] at h
      cases h
    | some u =>
      rw [e] at h
      cases u <;> first | (cases h; exact ⟨rfl, n, fun ps z => by cases z⟩) | cases h
structure LS (TT : List (Addr × Str)) (r : Addr) (m : Nat) (B H : Hp) : Prop where
  rs : RS r m B H
  tb : LamX.Tabs TT H
  nt : ∀ b ps, B b ≠ some (.tbl ps)
theorem tabs_dr {TT : List (Addr × Str)} {r : Addr} {m m' : Nat} {H H' : Hp} (hT : LamX.Tabs TT H) (h : RngOk H r m) (d : Dr r m' H H') : LamX.Tabs TT H' := by
  obtain ⟨a, b, c, h1, _⟩ := h
  obtain ⟨a', b', c', h2, _⟩ := d.ok
  have e : H' = upd H r (.lst [.int a', .int b', .int c']) := funext fun x => by
    by_cases hx : x = r
    · rw [hx, h2, upd_same]
    · rw [upd_ne hx, d.ne x hx]
  rw [e]
  exact tabs_lst hT h1
theorem LS.dr {TT : List (Addr × Str)} {r : Addr} {m m' : Nat} {B H H' : Hp} (h : LS TT r m B H) (d : Dr r m' H H') : LS TT r m' B H' := ⟨h.rs.dr d, tabs_dr h.tb h.rs.ok d, h.nt⟩
theorem LS.new {TT : List (Addr × Str)} {r p : Addr} {m : Nat} {B H : Hp} {o : HO} (h : LS TT r m B H) (e : H p = none) : LS TT r m B (upd H p o) := ⟨h.rs.new e, h.tb.ext (snew e), h.nt⟩
theorem LS.grow {TT : List (Addr × Str)} {r : Addr} {m : Nat} {B H H' : Hp} (h : LS TT r m B H) (e : Same H H') : LS TT r m B H' := ⟨h.rs.grow e, h.tb.ext e, h.nt⟩
theorem LS.put {TT : List (Addr × Str)} {r p : Addr} {m : Nat} {B H : Hp} {o : HO} {xs : List V} (h : LS TT r m B H) (e : B p = none) (n : r ≠ p) (l : H p = some (.lst xs)) : LS TT r m B (upd H p o) := ⟨h.rs.put e n, tabs_lst h.tb l, h.nt⟩
theorem LS.mono {TT : List (Addr × Str)} {r : Addr} {m m' : Nat} {B H : Hp} (h : LS TT r m B H) (e : m ≤ m') : LS TT r m' B H := ⟨h.rs.mono e, h.tb, h.nt⟩
/-- a base of its own -/
theorem LS.own {TT : List (Addr × Str)} {r : Addr} {m : Nat} {H : Hp} (h : RngOk H r m) (t : LamX.Tabs TT H) : LS TT r m (bs H r) H := ⟨⟨fun b o e => (of_bs e).1, by
  cases e : bs H r r with
  | none => rfl
  | some o => exact absurd rfl (of_bs e).2.1, h⟩, t, fun b ps e => (of_bs e).2.2 ps rfl⟩
theorem tabs_cut {TT : List (Addr × Str)} {r : Addr} {m : Nat} {H H' : Hp} (hT : LamX.Tabs TT H) (h : RngOk H r m) (s : Same (cutr H r) H') : LamX.Tabs TT H' := by
  obtain ⟨a, b, c, h1, _⟩ := h
  intro p hp
  obtain ⟨ps, e1, e2, e3⟩ := hT p hp
  refine ⟨ps, s _ _ ?_, e2, fun pos cv hc => ?_⟩
  · rw [cutr_ne fun z => by rw [z, h1] at e1; cases e1]
    exact e1
  · obtain ⟨c', f1, f2⟩ := e3 pos cv hc
    refine ⟨c', f1, s _ _ ?_⟩
    rw [cutr_ne fun z => by rw [z, h1] at f2; unfold LamX.CodeO at f2; cases f2]
    exact f2
def tupo : HO → Bool
  | .tup _ => true
  | .frz _ (.tup _) => true
  | _ => false
def ST (H H' : Hp) : Prop := ∀ b o, H b = some o → tupo o = true → H' b = some o
theorem ST.of {H H' : Hp} (e : Same H H') : ST H H' := fun b o h _ => e b o h
theorem ST.tr {A B C : Hp} (a : ST A B) (b : ST B C) : ST A C := fun x o h d => b x o (a x o h d) d
theorem ST.put {H : Hp} {l : Addr} {xs : List V} {o : HO} (h : H l = some (.lst xs)) : ST H (upd H l o) := fun b u e d => by
  rw [upd_ne fun z => by rw [z, h] at e; cases e; cases d]
  exact e
theorem ST.dr {H H' : Hp} {r : Addr} {m m' : Nat} (h : RngOk H r m) (d : Dr r m' H H') : ST H H' := fun b u e t => by
  obtain ⟨x, y, z, h1, _⟩ := h
  rw [d.ne b fun q => by rw [q, h1] at e; cases e; cases t]
  exact e
theorem ST.bs {H : Hp} {r : Addr} {m : Nat} (h : RngOk H r m) : ST H (Fr.bs H r) := fun b u e t => by
  obtain ⟨x, y, z, h1, _⟩ := h
  refine bs_of e (fun q => ?_) fun ps q => ?_
  · rw [q, h1] at e
    cases e
    cases t
  · rw [q] at t
    cases t
mutual
def noL : PyData → Bool
  | .list _ => false
  | .tuple ds => noLs ds
  | .dict _ => false
  | .none => true
  | .bool _ => true
  | .int _ => true
  | .str _ => true
def noLs : List PyData → Bool
  | [] => true
  | d :: ds => noL d && noLs ds
end
theorem noLs_map {α : Type} {g : α → PyData} (h : ∀ x, noL (g x) = true) : ∀ xs : List α, noLs (xs.map g) = true
  | [] => rfl
  | x :: xs => by
    show (noL (g x) && noLs (xs.map g)) = true
    rw [h x, noLs_map h xs]
    rfl
theorem noL_ints (ns : List Int) : noLs (ns.map PyData.int) = true := noLs_map (fun _ => rfl) ns
theorem noL_rd (r : Rd1) : noL r.d = true := by
  show (true && (noLs (r.v.map PyData.int) && (true && true))) = true
  rw [noL_ints]
  rfl
theorem noL_k (t : Tb) : noL t.k = true := by
  show (true && (noLs (t.rs.map Rd1.d) && true)) = true
  rw [noLs_map noL_rd]
  rfl
section
variable {K : PySem.W.Frag}
theorem sqtt {H H' : Hp} (e : ST H H') {a : Addr} {xs : List V} (h : SqT K H a xs) : SqT K H' a xs := by
  rcases h with (h | ⟨o, h⟩) | h
  · exact .inl (.inl (e _ _ h rfl))
  · exact .inl (.inr ⟨o, e _ _ h rfl⟩)
  · exact .inr h
mutual
theorem dpt {H H' : Hp} (e : ST H H') : ∀ (d : PyData) (v : V), noL d = true → Dp K H v d → Dp K H' v d
  | .none, _, _, h => by cases h; exact .non
  | .bool b, _, _, h => by cases h; exact .bl b
  | .int i, _, _, h => by cases h; exact .int i
  | .str x, _, _, h => by cases h; exact .str x
  | .list ds, _, n, h => by cases n
  | .tuple ds, _, n, h => by
    cases h with
    | tup hs ha => exact .tup (sqtt e hs) (dpst e ds _ n ha)
  | .dict _, _, _, h => by cases h
theorem dpst {H H' : Hp} (e : ST H H') : ∀ (ds : List PyData) (vs : List V), noLs ds = true → DpAll K H vs ds → DpAll K H' vs ds
  | [], _, _, h => by cases h; exact .nil
  | d :: ds, _, n, h => by
    have n' : (noL d && noLs ds) = true := n
    rw [Bool.and_eq_true] at n'
    cases h with
    | cons h1 h2 => exact .cons (dpt e d _ n'.1 h1) (dpst e ds _ n'.2 h2)
end
theorem kvt {H H' : Hp} (e : ST H H') : ∀ {kvs : List (Key × V)} {ts : List Tb}, KvAt K H kvs ts → KvAt K H' kvs ts
  | [], _, h => by cases h; exact .nil
  | kv :: kvs, _, h => by
    cases h with
    | cons h1 h2 => exact .cons ⟨h1.1, dpt e _ _ (noL_k _) h1.2⟩ (kvt e h2)
end
section
variable {P : Program} {w : World} {K : PySem.W.Frag} {mg : Str → Option Value} {base : Heap}
theorem sd_bs {B H : Hp} {r : Addr} (s : Same B H) (n : B r = none) : SD B (bs H r) := fun b o h d => bs_of (s b o h) (ne_of_none h n) fun ps z => by
  rw [z] at d
  cases d
theorem SysAt.bs {C : Addr} {H : Hp} {r s : Addr} {m : Nat} {d md : Int} {ts : List Tb} (h : SysAt K C H s d md ts) (hr : RngOk H r m) (e : ∀ kvs, KvAt K H kvs ts → KvAt K (Fr.bs H r) kvs ts) : SysAt K C (Fr.bs H r) s d md ts := by
  obtain ⟨dx, t, kvs, h1, h2, h3⟩ := h.ob
  obtain ⟨a, b, c, h4, _⟩ := hr
  refine ⟨dx, t, kvs, bs_of h1 (fun z => ?_) (fun ps z => by cases z), bs_of h2 (fun z => ?_) (fun ps z => by cases z), e _ h3⟩
  · rw [z, h4] at h1
    cases h1
  · rw [z, h4] at h2
    cases h2
theorem find_nodup {x : Str} : ∀ {ts : List Tb} {tb : Tb}, (ts.map (·.n)).Nodup → tb ∈ ts → tb.n = x → ts.find? (fun t => decide (t.n = x)) = some tb
  | [], _, _, h, _ => by cases h
  | t :: ts, tb, n, h, e => by
    rw [List.map_cons, List.nodup_cons] at n
    rcases List.mem_cons.mp h with rfl | h
    · exact List.find?_cons_of_pos (by simpa using e)
    · rw [List.find?_cons_of_neg fun z => n.1 (by
        have : t.n = x := of_decide_eq_true z
        rw [this, ← e]
        exact List.mem_map.mpr ⟨tb, h, rfl⟩)]
      exact find_nodup n.2 h e
end
end Fr

namespace Fr
open PySem PySem.Spec PyProof.Rows L2
inductive KvEq (K : PySem.W.Frag) (H : Hp) (ls : List (Key × V)) : List (Key × V) → Bool → Prop
  | nil : KvEq K H ls [] true
  | miss {k : Key} {v : V} {r : List (Key × V)} : valV ls k = none → KvEq K H ls ((k, v) :: r) false
  | hit {k : Key} {v u : V} {r : List (Key × V)} {d e : PyData} {b : Bool} : valV ls k = some u → Dp K H v d → Dp K H u e → SeqAt.shaped d = true → SeqAt.shaped e = true → KvEq K H ls r b → KvEq K H ls ((k, v) :: r) (PyData.eqv d e && b)
def rEqKv (K : PySem.W.Frag) : R2 := fun x y H Q => ∃ (a b : Addr) (ks ls : List (Key × V)) (r : Bool), x = .ref a ∧ y = .ref b ∧ H a = some (.dK ks) ∧ H b = some (.dK ls) ∧ (ks.length = ls.length → KvEq K H ls ks r) ∧ Q (.bl (ks.length == ls.length && r)) H
section
variable {X : Cx} {pins : List (Addr × Obj)} {σ : L2.St} {H : Hp} {s : Shared}
theorem kvHits (I : Inv X pins σ H s) {A : Around} (hu : A.units + 64 < cLine) {ls : List (Key × V)} {vb : List (Key × Value)} (rb : KV ls vb) {ks : List (Key × V)} {r : Bool} (h : KvEq X.K H ls ks r) :
    ∀ {va : List (Key × Value)}, KV ks va → PySem.W.KeqHitsP X.prog X.w A s vb va r := by
  induction h with
  | nil =>
    intro va ra
    cases ra
    exact .nil
  | @miss k v t hv =>
    intro va ra
    cases ra with
    | @cons _ q _ qs h1 h2 =>
      obtain ⟨key, u⟩ := q
      obtain ⟨h1, h3⟩ := h1
      have h1' : k = key := h1
      subst h1'
      exact .miss (RelO.none_of (by rw [← hv]; exact rb.val k))
  | @hit k v u t d e b hv hd he sd se _ ih =>
    intro va ra
    cases ra with
    | @cons _ q _ qs h1 h2 =>
      obtain ⟨key, w⟩ := q
      obtain ⟨h1, h3⟩ := h1
      have h1' : k = key := h1
      subst h1'
      have rr : RelO (some u) (valueAt vb k) := by rw [← hv]; exact rb.val k
      obtain ⟨y, hy, ry⟩ := rr.some_of
      obtain ⟨as, q1⟩ := Dp.reads I d _ _ hd h3
      obtain ⟨bs, q2⟩ := Dp.reads I e _ _ he ry
      exact .hit hy (SeqAt.eqAt_reads d e A s _ _ as bs q1 q2 (SeqAt.canLay_of_shaped sd) (SeqAt.canLay_of_shaped se) (SeqAt.room_of_shaped sd hu)).eqP (ih h2)
theorem op_eqKv (hu : X.A.units + 65 < cLine) : OpR X (compareOp .Eq) (rEqKv X.K) := by
  intro pins s σ H x y v u Q I rx ry h
  obtain ⟨a, b, ks, ls, r, rfl, rfl, ha, hb, hr, q⟩ := h
  cases (show v = Value.ref a from rx)
  cases (show u = Value.ref b from ry)
  obtain ⟨_, ya, va, ra, da⟩ := (show ObjOk X.prog X.w H s.heap a (.dK ks) from I.hok a _ ha)
  obtain ⟨_, yb, vb, rb, db⟩ := (show ObjOk X.prog X.w H s.heap b (.dK ls) from I.hok b _ hb)
  have e1 : va.length = ks.length := ra.length.symm
  have e2 : vb.length = ls.length := rb.length.symm
  refine PySem.W.rcP_dicts (knd := mixKind X.prog X.w) (r := r) ya yb da db (by omega) (fun e => kvHits I (by show X.A.units + 1 + 64 < cLine; omega) rb (hr (by omega)) ra) _ _ ?_
  rw [e1, e2]
  exact ⟨.bl _, H, I, rfl, q⟩
end
structure EqM (P : Program) (w : World) (K : PySem.W.Frag) (mg : Str → Option Value) (base : Heap) (k : Nat) (C : Addr) (sp : Sp) : Prop where
  ex : ∃ (f : Addr) (fd : FuncData) (ps : List Str), Cls K C ∧ PySem.W.findIn K (.ref C) "__eq__" = some (some (.ref f)) ∧ PySem.W.isFn K (.ref f) = true ∧ FnOk P w K mg base CX0 k f fd ps sp ∧ Binds K fd ps []
def rEqOwn (C : Addr) (sp : Sp) : R2 := fun x y H Q => ∃ (a b dx dy : Addr) (fs gs : List (Str × V)), x = .ref a ∧ y = .ref b ∧ H a = some (.ins C dx fs) ∧ H b = some (.ins C dy gs) ∧ sp [.ref a, .ref b] H (fun v H' => ∃ r, v = .bl r ∧ Q (.bl r) H') C8.E0
theorem op_eqOwn {X : Cx} {k j : Nat} {C : Addr} {sp : Sp} (c : EqM X.prog X.w X.K X.mg X.base k C sp) (hr : Room j X.A) (hk : k ≤ j) : OpR X (compareOp .Eq) (rEqOwn C sp) := by
  intro pins s σ H x y v u Q I rx ry h
  obtain ⟨a, b, dx, dy, fs, gs, rfl, rfl, ha, hb, h⟩ := h
  cases (show v = Value.ref a from rx)
  cases (show u = Value.ref b from ry)
  obtain ⟨f, fd, ps, hc, hs, hf, F, hbd⟩ := c.ex
  obtain ⟨mA, J, _⟩ := ins_get I.hok ha
  obtain ⟨mB, J', _⟩ := ins_get I.hok hb
  obtain ⟨od, J, _⟩ := J.look
  obtain ⟨od', J', _⟩ := J'.look
  obtain ⟨m, hF⟩ := I.fr
  have hu : X.A.units < cLine := (hr.mono hk).units0
  refine PySem.W.cmp_K (op := .Eq) (tb := .ref C) hu hF I.ok.mod.kin J J'.type (by simp [PySem.W.notFirst]) hs hf ?_
  refine wpAny_mono (run_fn (us := [.ref a, .ref b]) (vs := [.ref a, .ref b]) F (hr.mono hk) hbd .nil pass0 I (.cons rfl (.cons rfl .nil)) h) (fun r s' q => ?_) fun _ _ x => x
  obtain ⟨z, H', I', rz, t, rfl, q⟩ := q
  obtain rfl : r = Value.bool t := rz
  exact ⟨.bl t, H', I', rfl, q⟩
structure MetK (P : Program) (w : World) (K : PySem.W.Frag) (mg : Str → Option Value) (base : Heap) (k : Nat) (C : Addr) (m : Str) (sp : Sp) (ks : List Str) (gV : List V → List V → List V) : Prop where
  ex : ∃ (f : Addr) (fd : FuncData) (ps : List Str) (g : List Value → List Value → List Value), Cls K C ∧ Meth K C m f ∧ FnOk P w K mg base CX0 k f fd ps sp ∧ KBinds K fd ps ks g gV
def tMethK (C : Addr) (m : Str) (sp : Sp) (gV : List V → List V → List V) (E : XK) (ta : TE) (tk : TA) : TE := fun σ H Q => ta σ H fun x H1 => ∃ a dx fs, x = .ref a ∧ H1 a = some (.ins C dx fs) ∧ fs.lookup m = none ∧
  tk σ H1 fun zs H2 => sp (gV [x] zs) H2 Q E
theorem pe_mtk {X : Cx} {k j : Nat} {C : Addr} {m : Str} {sp : Sp} {ks : List Str} {gV : List V → List V → List V} {o : Expr} {kws : List Keyword} {ta : TE} {tk : TA} {apos pos : Pos} {pl : Sem Bool} (c : MetK X.prog X.w X.K X.mg X.base k C m sp ks gV) (hr : Room j X.A) (hk : k ≤ j) (he : PE X o ta) (hkw : PK X kws tk)
    (hall : (backToKw pos (keywordEach kws X.env)).all (·.1.isSome) = true := by rfl) (hks : (backToKw pos (keywordEach kws X.env)).filterMap (·.1) = ks := by rfl)
    (hpl : ((backTo pos (starEach [] X.env)).any (·.1) || (backToKw pos (keywordEach kws X.env)).any (·.1.isNone)) = false := by rfl)
    (ht : eval (.Call (.Attribute o m apos) [] kws pos) X.env = (do
      let ov ← eval o X.env
      standAt apos.atName
      let (f, first) ← holding [ov] (getMethod ov m pl)
      callWith pos f first (backTo pos (starEach [] X.env)) (backToKw pos (keywordEach kws X.env))) := by rfl) :
    PE X (.Call (.Attribute o m apos) [] kws pos) (tMethK C m sp gV C8.E0 ta tk) := by
  obtain ⟨f, fd, ps, g, hc, hm, F, hb⟩ := c.ex
  refine ⟨fun pins s σ H Q I h => ?_⟩
  refine PySem.W.methodCall_KW (pl := pl) (thn (he.run pins s σ H _ I h) fun u s1 ⟨x, H1, I1, rx, a, dx, fs, ex, ea, l, q⟩ => ?_) ht
  subst ex
  obtain rfl : u = Value.ref a := rx
  refine getmeth_ok I1 ea hc hm l ?_
  refine PySem.W.callWith_KW0 (first := [.ref a]) (h₀ := X.base) I.ok.mod.kin hm.kp hall (thn (hkw.run pos pins s1 σ H1 _ I1 q) fun ws s2 ⟨zs, H2, I2, rz, q2⟩ => ⟨I2.kIn, ?_⟩) hpl
  rw [hks]
  exact run_fnk (us := [.ref a]) (vs := [.ref a]) F (hr.mono hk) hb pass0 I2 (.cons rfl .nil) rz q2
def kw1 {α : Type} : List α → List α → List α
  | [s], [c] => [s, c]
  | _, _ => []
end Fr

namespace Fr
open PySem PySem.Spec PyProof.Rows L2
theorem iter_dict : typeLookup (.type "dict") "__iter__" = pure (some (.builtin "dict.__iter__")) := by rw [typeLookup_type, builtinLookup_eq_fast]; kernel_rfl
section
variable {prog : Program} {w : World} {A : Around} {E : Value → Shared → Prop} {s : Shared}
theorem wp_putNew {d : Addr} {kvs : List (Key × Value)} {k : Key} {x v : Value} {Q : Unit → Shared → Prop} (hx : (mixKind prog w).is k x = true) (hm : s.heap.DictOf (mixKind prog w) d kvs) (hno : k ∉ kvs.map (·.1))
    (hQ : ∀ h', h'.DictOf (mixKind prog w) d (kvs ++ [(k, v)]) → Heap.SameBut d s.heap h' → Q () { s with heap := h' }) (hsz : kvs.length ≤ sizeLine) :
    wpAny (model prog w) A (dictPut d ((mixKind prog w).hash k) x v) Q E s := by
  obtain ⟨o, es, ep, ho, hc, hd, hk, hp, hn⟩ := hm
  have hes : es.size ≤ sizeLine := by
    have e1 := hp.length
    rw [Array.length_toList] at e1
    omega
  unfold dictPut
  refine wpAny_bind (wpAny_dictFind_of hx ho hd hk ?_)
  have hidx : (es.findIdx? fun e => (mixKind prog w).is k e.key) = none := by
    have z : (es.findIdx? fun e => (mixKind prog w).is k e.key) = kvs.findIdx? fun kv => decide (kv.1 = k) := by
      rw [← hp.findIdx k]
      obtain ⟨l⟩ := es
      simp
    rw [z, List.findIdx?_eq_none_iff]
    intro kv hkv
    exact decide_eq_false fun e => hno (List.mem_map.mpr ⟨kv, hkv, e⟩)
  rw [hidx]
  refine wpAny_updateDictKeys (hz := hes) ho hd (hQ _ ⟨_, _, ep + 1, Heap.get?_update_self _ ho (Obj.isFreed_of_dict (Obj.data_mapDictKeys hd _)), hc.mapDictKeys _, Obj.data_mapDictKeys hd _, hk.push hx _, ?_, ?_⟩ (Heap.SameBut.update ..))
  · have z := hp.append hx ((mixKind prog w).hash k) v
    obtain ⟨l⟩ := es
    simpa using z
  · rw [List.map_append, List.nodup_append]
    refine ⟨hn, by simp, ?_⟩
    intro a ha b hb
    rw [List.mem_singleton.mp hb]
    exact fun e => hno (by rw [e] at ha; exact ha)
theorem wp_mergeMap {d o : Addr} {kvs more : List (Key × Value)} {Q : Unit → Shared → Prop} (hdo : d ≠ o) (hoS : (o == sysModules) = false) (hd : s.heap.DictOf (mixKind prog w) d kvs) (ho : s.heap.DictOf (mixKind prog w) o more)
    (hnd : ((kvs ++ more).map (·.1)).Nodup) (hsz : kvs.length + more.length ≤ sizeLine) (hQ : ∀ h', h'.DictOf (mixKind prog w) d (kvs ++ more) → Heap.SameBut d s.heap h' → Q () { s with heap := h' }) :
    wpAny (model prog w) A (mergeMapping d (.ref o) false) Q E s := by
  obtain ⟨od, esd, epd, hod, hcd, hdd, hkd, hpd, hnd'⟩ := id hd
  obtain ⟨oo, eso, epo, hoo, hco, hdo', hko, hpo, hno⟩ := id ho
  have hlen : more.length = eso.size := by
    rw [← hpo.length]
    simp
  unfold mergeMapping
  refine wpAny_bind (wpAny_isInstance (T := "dict") ho.typeIs PySem.F.sub_dict_dict ?_)
  rw [if_pos rfl]
  refine wpAny_bind (wpAny_specialOf ho.typeIs iter_dict ?_)
  refine wpAny_bind (wpAny_pure ?_)
  have hb : ((some (Value.builtin "dict.__iter__") : Option Value) == some (Value.builtin "dict.__iter__")) = true := by rfl
  rw [hb]
  dsimp only
  rw [if_neg (by rw [hoS]; exact Bool.false_ne_true)]
  have tail : ∀ {T : Sem Unit}, T = (do
      let l ← dictEntries o
      let epoch ← dictEpoch o
      forIn (List.range l.size) PUnit.unit fun i (_ : PUnit) => (do
        let l' ← dictEntries o
        match l'[i]? with
          | some e => do
            holding [e.key, e.val] (dictPut d e.hash e.key e.val)
            let ep' ← dictEpoch o
            if (ep' != epoch) = true then do
                (unsupported "dict.changed-during-merge" : Sem PUnit)
                pure (ForInStep.yield PUnit.unit)
              else pure (ForInStep.yield PUnit.unit)
          | _ => do
            (unsupported "dict.changed-during-merge" : Sem PUnit)
            pure (ForInStep.yield PUnit.unit) : Sem (ForInStep PUnit))
      pure ()) → wpAny (model prog w) A T Q E s := by
    intro T hT
    rw [hT]
    refine wpAny_bind (wpAny_dictEntries hoo hdo' ?_)
    refine wpAny_bind (wpAny_dictEpoch hoo hdo' ?_)
    refine wpAny_bind ?_
    refine wpAny_forIn_list _ (fun rest _ s' => ∃ h' i, s' = { s with heap := h' } ∧ rest = (List.range eso.size).drop i ∧ i ≤ eso.size ∧ h'.DictOf (mixKind prog w) d (kvs ++ more.take i) ∧ h'.get? o = some oo ∧ Heap.SameBut d s.heap h') _ ?_ ?_ _ _
      ⟨s.heap, 0, rfl, rfl, Nat.zero_le _, by rw [List.take_zero, List.append_nil]; exact hd, hoo, Heap.SameBut.refl _ _⟩
    · rintro x rest b s' ⟨h', i, rfl, hr, hi, hd', hoo', hs'⟩
      have hlt : i < eso.size := by
        rcases Nat.lt_or_ge i eso.size with h | h
        · exact h
        · rw [List.drop_of_length_le (by simpa using h)] at hr
          cases hr
      rw [List.drop_eq_getElem_cons (by simpa using hlt)] at hr
      injection hr with h1 h2
      rw [List.getElem_range] at h1
      subst h1
      refine wpAny_bind (wpAny_dictEntries hoo' hdo' ?_)
      rw [Array.getElem?_eq_getElem hlt]
      obtain ⟨⟨k, v⟩, hkv⟩ : ∃ kv, more[x]? = some kv := ⟨more[x]'(by omega), List.getElem?_eq_getElem _⟩
      obtain ⟨hkey, hval⟩ := hpo.get? (e := eso[x]) (by simp [hlt]) hkv
      obtain ⟨k', hkey', hhash⟩ := hko eso[x] (Array.getElem_mem hlt)
      obtain rfl : k' = k := (mixKind prog w).inj _ _ _ hkey' hkey
      have hlm : x < more.length := by omega
      have hno' : k' ∉ (kvs ++ more.take x).map (·.1) := fun hm => by
        have z : ((kvs ++ more).map (·.1)).Nodup := hnd
        have e2 : kvs ++ more = (kvs ++ more.take x) ++ ((k', v) :: more.drop (x + 1)) := by
          rw [List.append_assoc]
          congr 1
          have g : more[x] = (k', v) := by
            rw [List.getElem?_eq_getElem hlm] at hkv
            exact Option.some.inj hkv
          rw [← g, ← List.drop_eq_getElem_cons hlm, List.take_append_drop]
        rw [e2, List.map_append, List.nodup_append] at z
        exact z.2.2 k' hm k' (by rw [List.map_cons]; exact List.mem_cons_self) rfl
      show wpAny _ _ (holding [eso[x].key, eso[x].val] (dictPut d eso[x].hash eso[x].key eso[x].val) >>= _) _ _ _
      rw [hhash, hval]
      refine wpAny_bind (wpAny_holding (wp_putNew hkey hd' hno' (fun h'' hd'' hs'' => ?_) (by rw [List.length_append, List.length_take]; omega)))
      have hoo'' : h''.get? o = some oo := (hs''.2 o (Ne.symm hdo)).trans hoo'
      refine wpAny_bind (wpAny_dictEpoch hoo'' hdo' ?_)
      rw [if_neg (by simp)]
      exact wpAny_pure ⟨h'', x + 1, rfl, h2, hlt, by rw [List.take_add_one, hkv, ← List.append_assoc]; exact hd'', hoo'', hs'.trans hs''⟩
    · rintro b s' ⟨h', i, rfl, hr, hi, hd', hoo', hs'⟩
      have hin : i = eso.size := by
        rcases Nat.lt_or_ge i eso.size with h | h
        · rw [List.drop_eq_getElem_cons (by simpa using h)] at hr
          cases hr
        · exact Nat.le_antisymm hi h
      refine wpAny_pure (hQ h' ?_ hs')
      rw [hin, ← hlen, List.take_length] at hd'
      exact hd'
  refine wpAny_bind (wpAny_dictEntries hod hdd ?_)
  split
  · refine wpAny_bind (wpAny_dictEntries hoo hdo' ?_)
    refine wpAny_bind ?_
    rw [← Array.forIn_toList]
    refine wpAny_forIn_list _ (fun rest _ s' => s' = s ∧ ∀ e ∈ rest, e ∈ eso.toList) _ ?_ ?_ _ _ ⟨rfl, fun e he => he⟩
    · rintro x rest b s' ⟨rfl, hm⟩
      obtain ⟨k, hk, _⟩ := hko x (by simpa using hm x List.mem_cons_self)
      have hk : keyIs k x.key = true := hk
      rcases keyIs_shape hk with ⟨i, t, _, e⟩ | ⟨z, t, _, e⟩
      · rw [e]
        exact wpAny_pure ⟨rfl, fun y hy => hm y (List.mem_cons_of_mem _ hy)⟩
      · rw [e]
        exact wpAny_pure ⟨rfl, fun y hy => hm y (List.mem_cons_of_mem _ hy)⟩
    · rintro b s' ⟨rfl, _⟩
      exact tail rfl
  · exact tail rfl
end
end Fr

namespace Fr
open PySem PySem.Spec PyProof.Rows L2
theorem kv_keys : ∀ {kvs : List (Key × V)} {vs : List (Key × Value)}, KV kvs vs → vs.map (·.1) = kvs.map (·.1)
  | [], _, h => by cases h; rfl
  | p :: kvs, _, h => by
    cases h with
    | cons h1 h2 =>
      rw [List.map_cons, List.map_cons, kv_keys h2, h1.1]
theorem kv_app : ∀ {kvs ls : List (Key × V)} {vs us : List (Key × Value)}, KV kvs vs → KV ls us → KV (kvs ++ ls) (vs ++ us)
  | [], _, _, _, h, k => by cases h; exact k
  | p :: kvs, _, _, _, h, k => by
    cases h with
    | cons h1 h2 => exact .cons h1 (kv_app h2 k)
def tMrg (t1 t2 : TE) : TE := fun σ H Q => ∀ p, H p = none → t1 σ (upd H p (.dK [])) fun x H1 => ∃ (a : Addr) (ks : List (Key × V)), x = .ref a ∧ H1 a = some (.dK ks) ∧ a ≠ p ∧ H1 p = some (.dK []) ∧ (ks.map (·.1)).Nodup ∧
  t2 σ (upd H1 p (.dK ks)) fun y H2 => ∃ (b : Addr) (ls : List (Key × V)), y = .ref b ∧ H2 b = some (.dK ls) ∧ b ≠ p ∧ H2 p = some (.dK ks) ∧ ((ks ++ ls).map (·.1)).Nodup ∧ ks.length + ls.length ≤ sizeLine ∧ Q (.ref p) (upd H2 p (.dK (ks ++ ls)))
theorem pe_mrg {X : Cx} {e1 e2 : Expr} {t1 t2 : TE} {pos : Pos} (he1 : PE X e1 t1) (he2 : PE X e2 t2) : PE X (.Dict [none, none] [e1, e2] pos) (tMrg t1 t2) := by
  refine ⟨fun pins s σ H Q I q => ?_⟩
  rw [arm_eval_Dict]
  refine wpAny_bind (wpAny_standAt ?_)
  show wpAny _ _ (dictDisplay [(none, do let x ← eval e1 X.env; standAt pos; pure x), (none, do let x ← eval e2 X.env; standAt pos; pure x)]) _ _ s
  unfold dictDisplay
  dsimp only
  simp only [List.forIn_cons, List.forIn_nil]
  have hn := I.hok.fresh (Nat.le_refl s.heap.objs.size)
  have I1 := I.laid (a := s.heap.objs.size) (o := .dK []) (h' := s.heap.push { cls := .type "dict", data := .dict #[] }) (t' := s.toks) (fun _ _ q => Heap.get?_push_of_some _ q) (Nat.le_refl _) (dk_empty s.heap I.big)
  refine wpAny_bind (wpAny_bind (wpAny_bind ?_))
  show wpAny _ _ (pure none) _ _ _
  refine wpAny_pure ?_
  dsimp only
  refine wpAny_bind (wpAny_alloc ?_)
  refine wpAny_bind (wpAny_holding (wpAny_bind (thn (he1.run pins _ σ _ _ I1 (q s.heap.objs.size hn)) fun u s1 ⟨x, H1, I2, rx, a, ks, ex, ha, nap, hp, nd, q2⟩ => wpAny_bind (wpAny_standAt (wpAny_pure ?_)))))
  subst ex
  obtain rfl : u = Value.ref a := rx
  obtain ⟨zp, hdp, vs0, r0, ddp⟩ := dk_of I2.hok hp
  cases r0
  obtain ⟨za, hda, va, ra, dda⟩ := dk_of I2.hok ha
  have nva : (va.map (·.1)).Nodup := by
    have e : va.map (·.1) = ks.map (·.1) := kv_keys ra
    rw [e]
    exact nd
  refine wpAny_bind (wpAny_onRaise (wpAny_tryCatch (wpAny_onRaise (wpAny_holding (wp_mergeMap (Ne.symm nap) hda ddp dda (by simpa using nva) (by simpa using (by rw [← ra.length]; exact za)) fun h2 dd2 sb2 => ?_)))))
  have I3 : Inv X pins σ (upd H1 s.heap.objs.size (.dK ks)) { s1 with heap := h2, toks := s1.toks } := d_write I2 (by rw [hp]; exact True.intro) sb2 (let ⟨q, _, _, hq, _⟩ := dd2; ⟨q, hq⟩) (dk_new za hdp ra (by simpa using dd2))
  refine wpAny_pure ?_
  dsimp only
  refine wpAny_bind (wpAny_bind ?_)
  show wpAny _ _ (pure (some s.heap.objs.size)) _ _ _
  refine wpAny_pure ?_
  dsimp only
  refine wpAny_bind (wpAny_pure ?_)
  refine wpAny_bind (wpAny_holding (wpAny_bind (thn (he2.run pins _ σ _ _ I3 q2) fun u2 s3 ⟨y, H2, I4, ry, b, ls, ey, hb, nbp, hp2, nd2, hz2, q3⟩ => wpAny_bind (wpAny_standAt (wpAny_pure ?_)))))
  subst ey
  obtain rfl : u2 = Value.ref b := ry
  obtain ⟨zp2, hdp2, vs2, r2, ddp2⟩ := dk_of I4.hok hp2
  obtain ⟨zb, hdb, vb, rb, ddb⟩ := dk_of I4.hok hb
  have nvb : ((vs2 ++ vb).map (·.1)).Nodup := by
    have e : (vs2 ++ vb).map (·.1) = (ks ++ ls).map (·.1) := by
      rw [List.map_append, List.map_append, kv_keys r2, kv_keys rb]
    rw [e]
    exact nd2
  refine wpAny_bind (wpAny_onRaise (wpAny_tryCatch (wpAny_onRaise (wpAny_holding (wp_mergeMap (Ne.symm nbp) hdb ddp2 ddb nvb (by rw [← r2.length, ← rb.length]; exact hz2) fun h3 dd3 sb3 => ?_)))))
  have I5 : Inv X pins σ (upd H2 s.heap.objs.size (.dK (ks ++ ls))) { s3 with heap := h3, toks := s3.toks } := d_write I4 (by rw [hp2]; exact True.intro) sb3 (let ⟨q, _, _, hq, _⟩ := dd3; ⟨q, hq⟩) (dk_new (by rw [List.length_append]; exact hz2) hdp2 (kv_app r2 rb) dd3)
  refine wpAny_pure ?_
  dsimp only
  refine wpAny_pure ?_
  refine wpAny_bind ?_
  show wpAny _ _ (pure (some s.heap.objs.size)) _ _ _
  refine wpAny_pure ?_
  exact wpAny_pure ⟨.ref _, _, I5, rfl, q3⟩
end Fr

namespace Fr
open PySem PySem.Spec PyProof.Rows L2
theorem enum_newT {v : Value} {o : Obj} {G : Heap → Prop} (B : Begins v o G) :
    Meets (Builtin.«enumerate.__new__» ⟨[.type "enumerate", v], []⟩) (fun _ R s => G s.heap ∧
      R (.ok (.ret (.ref (s.heap.push o).objs.size))) { s with heap := (s.heap.push o).push { cls := .type "enumerate", data := .fields #[.none, .bool false, .ref s.heap.objs.size, rawInt 0, .none, .none] } }) :=
  .of_wp fun prog w A R s h => by
    obtain ⟨hp, g, d, tk, os⟩ := s
    obtain ⟨h1, h⟩ := h
    have hsub := sub_enumerate
    have it : ∀ {A' : Around} {E : Value → Shared → Prop} {Q : Value → Shared → Prop}, Q (.ref hp.objs.size) ⟨hp.push o, g, d, tk, os⟩ → wpAny (model prog w) A' (pyIter v) Q E ⟨hp, g, d, tk, os⟩ := fun q => B.iter prog w _ _ ⟨hp, g, d, tk, os⟩ _ h1 q
    wp_walk using it
    refine wpAny_stack_any fun st => wpAny_pure ?_
    split
    · rename_i c _ _ _ _ _
      cases (c == Value.type "enumerate") <;> (wp_walk using it; exact ⟨_, rfl, h⟩)
    · wp_walk using it
      exact ⟨_, rfl, h⟩
section
variable {prog : Program} {w : World} {A : Around} {E : Value → Shared → Prop} {s : Shared}
theorem call_enumT {v : Value} {o : Obj} {G : Heap → Prop} {Q : Value → Shared → Prop} (B : Begins v o G) (h1 : G s.heap)
    (h : ∀ h', IsEnum h' (s.heap.objs.size + 1) s.heap.objs.size 0 .none → h'.get? s.heap.objs.size = some o → (∀ b u, s.heap.get? b = some u → h'.get? b = some u) → Q (.ref (s.heap.objs.size + 1)) { s with heap := h' }) :
    wpAny (model prog w) A (call (.type "enumerate") [v]) Q E s := by
  refine callType_new PySem.F.called_enumerate (by decide) (PySem.F.typeCall_enumerate_1 _) (PySem.F.newCall_enumerate_1 _) (fun obj => PySem.F.args_object_init_2 obj _) PySem.F.entry_enumerate_new (enum_newT B) ⟨h1, ?_⟩
  have hz : (s.heap.push o).objs.size = s.heap.objs.size + 1 := Heap.size_push ..
  show _ ∧ _
  rw [hz]
  have he : IsEnum ((s.heap.push o).push { cls := .type "enumerate", data := .fields #[.none, .bool false, .ref s.heap.objs.size, rawInt 0, .none, .none] }) (s.heap.objs.size + 1) s.heap.objs.size 0 .none := by
    have z := Heap.get?_push_size (s.heap.push o) (o := { cls := .type "enumerate", data := .fields #[.none, .bool false, .ref s.heap.objs.size, rawInt 0, .none, .none] }) rfl
    rw [hz] at z
    exact z
  exact ⟨⟨_, he, rfl⟩, h _ he (Heap.get?_push_of_some _ (Heap.get?_push_size _ B.free)) fun b u e => Heap.get?_push_of_some _ (Heap.get?_push_of_some _ e)⟩
end
section
variable {prog : Program} {w : World} {A : Around} {E : Value → Shared → Prop} {s : Shared}
theorem enumT_end {e it a : Addr} {i : Nat} {items : Array Value} {old : Value} {Q : Option Value → Shared → Prop} (hh : A.in1.handled = none) (he : IsEnum s.heap e it i old) (hit : s.heap.IsTupleIter it a i) (ht : s.heap.IsTuple a items) (hne : a ≠ it) (hx : items[i]? = none)
    (hQ : ∀ h', Heap.ExtBut it s.heap h' → Q none { s with heap := h' }) : wpAny (model prog w) A (pyNext (.ref e)) Q E s := by
  have hT : s.TypeIs (.ref e) "enumerate" := ⟨_, he, rfl⟩
  unfold pyNext
  refine wpAny_bind (wpAny_attempt (wpAny_callSpecial?_slot (name := Str.ofString "__next__") hT PySem.F.slot_enumerate_next (wpAny_call_entry PySem.F.slot_enumerate_next hT PySem.F.entry_enumerate_next ?_ (PySem.F.args_enumerate_next_1 _))))
  show wpAny _ _ (field (.ref e) 2 >>= _) _ _ _
  refine wpAny_bind (wpAny_field he rfl (x := .ref it) rfl ?_)
  refine wpAny_bind (wpAny_nextOf_tuple_end hh hit ht hx fun h' x he' hx' => ?_)
  obtain ⟨o, ho, hc⟩ := hx'
  exact wpAny_bind (wpAny_isInstance (T := "StopIteration") (b := true) ⟨o, ho, hc⟩ isSubtype_stop (wpAny_pure (hQ _ he')))
end
/-- the tuple at a as it stands, each item in a new pair -/
def IteT (K : PySem.W.Frag) (a : Addr) : It :=
  ⟨fun i H => ∃ (xs : List V) (x : V), SqT K H a xs ∧ xs[i]? = some x, fun i H v H' => ∃ T x, v = .ref T ∧ H T = none ∧ H' = upd H T (.tup [.int (i : Nat), x]) ∧ ∀ xs, SqT K H a xs → xs[i]? = some x, fun i H => ∃ xs : List V, SqT K H a xs ∧ xs.length ≤ i⟩
theorem turn_enumT {P : Program} {w : World} {K : PySem.W.Frag} {elts : List Expr} {kk : Nat} {tpos : Pos} (a e it : Addr) :
    Turn P w K (.Tuple elts kk tpos) (IteT K a) [e, it] e (fun i h => (∃ old, IsEnum h e it ((i : Nat) : Int) old) ∧ h.IsTupleIter it a i ∧ e ≠ it ∧ a ≠ e ∧ a ≠ it) where
  mem := by simp
  obj := fun i h st b hb => by
    obtain ⟨⟨old, he⟩, ⟨o, ho, hc, hd⟩, _⟩ := st
    rcases (show b = e ∨ b = it by simpa using hb) with z | z <;> rw [z]
    · exact ⟨_, he, fun v q => nomatch q⟩
    · exact ⟨o, ho, fun v q => by rw [hd] at q; cases q⟩
  keep := fun i h h' st k => let ⟨⟨old, he⟩, hi, ne⟩ := st; ⟨⟨old, k e (by simp) _ he⟩, hi.at fun o q => k it (by simp) o q, ne⟩
  item := by
    intro X hP hw hK hc i pins s σ H E I hf st hg
    subst hP hw hK
    obtain ⟨⟨old, he⟩, hit, hne, hae, hai⟩ := st
    obtain ⟨xs, x, hq, hx⟩ := hg
    obtain ⟨its, rv, p, hz⟩ := I.tuple hq
    obtain ⟨u, hu, ru⟩ := rv.get hx
    have hel : e < s.heap.objs.size := Heap.lt_size he
    have hil : it < s.heap.objs.size := by
      obtain ⟨_, q, _⟩ := hit
      exact Heap.lt_size q
    have hlt : i < its.toArray.size := by
      rw [List.size_toArray]
      exact (List.getElem?_eq_some_iff.mp hu).1
    refine wpAny_pyNext_enum_itemD (Draws.tuple (show X.A.in1.handled = none from I.ok.hd hc) it a hai its.toArray) he ⟨hit, p⟩ hlt hne (by simp [hne, Ne.symm hae]) fun u' h' tk hP ho hst hT hsz hk => ?_
    obtain rfl : u' = u := by
      have z : its.toArray[i]? = some u' := hP
      rw [List.getElem?_toArray, hu] at z
      exact (Option.some.inj z).symm
    refine ⟨_, rfl, wpAny_letOwnedTupleGo_enum (s := { s with heap := h', toks := tk + 1 }) ho fun h'' he' sb => ?_⟩
    have hT2 : h''.get? s.heap.objs.size = some { cls := .type "tuple", data := .seq #[.int i tk, u'] } := (sb.2 _ (Nat.ne_of_gt hel)).trans hT
    have nw : ObjOk X.prog X.w (upd H s.heap.objs.size (.tup [.int (i : Nat), x])) h'' s.heap.objs.size (.tup [.int (i : Nat), x]) :=
      ⟨by show 2 ≤ sizeLine; decide, [.int i tk, u'], .cons ⟨_, rfl⟩ (.cons ru .nil), ⟨_, hT2, rfl, _, rfl⟩⟩
    have I1 : Inv X pins σ (upd H s.heap.objs.size (.tup [.int (i : Nat), x])) { s with heap := h'', toks := tk + 1 } :=
      I.turnedNew (ch := [e, it]) (fun b ob nb q => (sb.2 b (fun z => nb (by simp [z]))).trans (hk b ob (fun z => nb (by simp [z])) (fun z => nb (by simp [z])) q)) hf (Nat.le_refl _) nw
    refine ⟨.ref s.heap.objs.size, _, I1, rfl, ⟨_, x, rfl, I.hok.fresh (Nat.le_refl _), rfl, fun ys hy => by rw [I.tuple_inj hy hq]; exact hx⟩, ⟨⟨u', ?_⟩, hst.1.at fun o q => (sb.2 it (Ne.symm hne)).trans q, hne, hae, hai⟩, fun b hb => ?_⟩
    · rw [show ((i + 1 : Nat) : Int) = (i : Int) + 1 by omega]
      exact he'
    · have hb' : b < s.heap.objs.size := by
        rcases (show b = e ∨ b = it by simpa using hb) with z | z <;> rw [z]
        · exact hel
        · exact hil
      rw [upd_ne (Nat.ne_of_lt hb')]
      exact (hf b hb).1
  done := by
    intro X hP hw hK hc i pins s σ H E I hf st hg
    subst hP hw hK
    obtain ⟨⟨old, he⟩, hit, hne, hae, hai⟩ := st
    obtain ⟨xs, hq, hx⟩ := hg
    obtain ⟨its, rv, p, hz⟩ := I.tuple hq
    obtain ⟨f0, f1, f2, f3, f4, f5⟩ := hf it (by simp)
    have hl := rv.length
    exact enumT_end (show X.A.in1.handled = none from I.ok.hd hc) he hit p hai (by simp; omega) fun h' eb => ⟨rfl, I.turned (t' := s.toks) (fun b o hb q => eb b o hb q) f0 f1 f3 f4 f5⟩
  self := fun A i s Q E st h => let ⟨⟨_, he⟩, _⟩ := st; wpAny_pyIter_enum he h
def iEnumT (K : PySem.W.Frag) (ta : TA) : TI := fun σ H R => ta σ H fun vs H1 => ∃ a xs, vs = [.ref a] ∧ SqT K H1 a xs ∧ R (IteT K a) H1
theorem pi_enumT {X : Cx} {e : Expr} {ta : TA} {p pos tpos : Pos} {elts : List Expr} {kk : Nat} (hg : Gl X "enumerate") (hm : X.mg "enumerate" = none) (ha : PA X [e] ta) (hs : starEach [e] X.env = [(false, eval e X.env)] := by rfl) :
    PI X (.Tuple elts kk tpos) (.Call (.Name "enumerate" p) [e] [] pos) (iEnumT X.K ta) := by
  refine ⟨fun pins s σ H R I h => ?_⟩
  refine Call_ (ld_blt I hg hm boot_enumerate (PyProof.Rows.callWith_type1 (thn (ha.run pos pins s σ H _ I h) fun us s1 ⟨vs, H1, I1, r1, a, xs, ex, hq, q⟩ => ?_) hs rfl))
  subst ex
  obtain rfl := Vals.ref1 r1
  obtain ⟨its, rv, p', hz⟩ := I1.tuple hq
  have hal : a < s1.heap.objs.size := by
    obtain ⟨o, ho, _⟩ := id p'
    exact Heap.lt_size ho
  refine call_enumT (begins_tuple a its.toArray) p' fun h' he hit hk => wpAny_pyIter_enum he ?_
  have I2 : Inv X pins σ H1 { s1 with heap := h' } := I1.kept (t' := s1.toks) hk
  refine ⟨s1.heap.objs.size + 1, [s1.heap.objs.size + 1, s1.heap.objs.size], _, _, H1, rfl, I2, turn_enumT a (s1.heap.objs.size + 1) s1.heap.objs.size,
    ⟨⟨.none, he⟩, ⟨_, hit, rfl, rfl⟩, Nat.succ_ne_self _, Nat.ne_of_lt (Nat.lt_succ_of_lt hal), Nat.ne_of_lt hal⟩, fun b hb => ?_, q⟩
  have hle : s1.heap.objs.size ≤ b := by
    rcases (show b = s1.heap.objs.size + 1 ∨ b = s1.heap.objs.size by simpa using hb) with z | z <;> rw [z]
    · exact Nat.le_add_right _ _
    · exact Nat.le_refl _
  exact I1.fpOk hle (I1.hok.fresh hle)
theorem walk_enumT {K : PySem.W.Frag} {a : Addr} {xs : List V} : Walk (IteT K a) xs.length (fun H => SqT K H a xs) (YPair (fun i => some (.int (i : Nat))) (fun i => xs[i]?)) := by
  refine ⟨fun i _ hi q => ⟨xs, xs[i], q, by simp [hi]⟩, fun _ q => ⟨xs, q, Nat.le_refl _⟩, fun i H v H' _ q y => ?_⟩
  obtain ⟨T, x, y1, y2, y3, y4⟩ := y
  exact ⟨T, .int (i : Nat), x, y1, y2, y3, rfl, y4 xs q⟩
end Fr

namespace Fr
open PySem PySem.Spec PyProof.Rows L2
/-- o.f in a comprehension's block -/
theorem pe_fldK {X : Cx} {K' : PySem.W.Frag} {e : Expr} {f : Str} {pos : Pos} {ta : TE} (he : PE X e ta) (hb : attributeBase e f X.env (eval e X.env) = eval e X.env := by rfl) (hK : X.K = K' := by rfl) : PE X (.Attribute e f pos) (tFld K' ta f) := by
  subst hK
  exact pe_fld he hb
structure LenM (P : Program) (w : World) (K : PySem.W.Frag) (mg : Str → Option Value) (base : Heap) (k : Nat) (C : Addr) (sp : Sp) : Prop where
  ex : ∃ (f : Addr) (fd : FuncData) (ps : List Str), Cls K C ∧ PySem.W.findIn K (.ref C) "__len__" = some (some (.ref f)) ∧ PySem.W.isFn K (.ref f) = true ∧ FnOk P w K mg base CX0 k f fd ps sp ∧ Binds K fd ps []
def rLenOwn (C : Addr) (sp : Sp) : List V → Hp → VK → Prop := fun xs H Q => ∃ (a dx : Addr) (fs : List (Str × V)), xs = [.ref a] ∧ H a = some (.ins C dx fs) ∧ sp [.ref a] H (fun v H' => ∃ n : Nat, v = .int n ∧ n < 1000000 ∧ Q (.int n) H') C8.E0
theorem call_lenOwn {X : Cx} {k j : Nat} {C : Addr} {sp : Sp} (c : LenM X.prog X.w X.K X.mg X.base k C sp) (hr : Room j X.A) (hk : k + 1 ≤ j) : CallR X (.builtin "len") (rLenOwn C sp) := by
  intro pins s σ H xs us Q I r h
  obtain ⟨a, dx, fs, rfl, ha, h⟩ := h
  obtain ⟨u, rfl, ru⟩ := vals1 r
  obtain rfl : u = Value.ref a := ru
  obtain ⟨f, fd, ps, hc, hs, hf, F, hb⟩ := c.ex
  obtain ⟨mA, J, _⟩ := ins_get I.hok ha
  obtain ⟨od, J, _⟩ := J.look
  have sp1 : PySem.W.Looks (model X.prog X.w) s.heap (specialOf (.ref a) "__len__") (some (.ref f)) := J.type.andThen (PySem.W.looks_findIn I.kIn hs)
  refine Calls.call_function_entry kind_len plain_len entry_len (args_len1 _) ?_
  unfold Builtin.«len»
  refine wpAny_bind (m := oneArg "len" _) (wpAny_pure ?_)
  refine wpAny_bind (m := callSpecial? (.ref a) (Str.ofString "__len__")) ?_
  unfold callSpecial?
  refine wpAny_bind (sp1.here ?_)
  refine wpAny_holding (wpAny_bind ((PySem.W.bind_fn I.kIn _ (beq_iff_eq.mp hf)).here ?_))
  have hrk : Room (k + 1) X.A := hr.mono hk
  have r2 : Vals [V.ref a] [Value.ref a] := .cons rfl .nil
  have hl := F.len _ _ _ _ h
  have bt := hb s [.ref a] I.kIn (by simpa using hl)
  refine wpAny_bind (wpAny_call (codeAny_mono (F.run X.A.in1 X.stack s H ⟨[.ref a], []⟩ [.ref a] [.ref a] _ C8.E0 hrk.in1 I.env0.in1 (by simpa using bt) r2 h) fun rs s2 z => ?_))
  match rs, z with
  | .error er, z => exact pass0 (X := X) pins σ H s er s2 I z
  | .ok (.ret v), z =>
    obtain ⟨y, H', I', ry, n, rfl, hn, q⟩ := I.after z
    obtain ⟨t, rfl⟩ : ∃ t, v = Value.int n t := ry
    refine wpAny_pure ?_
    refine wpAny_bind (wpAny_holding (wpAny_pure ?_))
    refine wpAny_bind (wpAny_letGo ?_)
    show wpAny _ _ (if ((n : Nat) : Int) < 0 then _ else _) _ _ _
    rw [if_neg (by omega)]
    show wpAny _ _ (if ((n : Nat) : Int) ≥ 2 ^ 63 then _ else _) _ _ _
    rw [if_neg (by omega)]
    exact wpAny_bind (wpAny_mkInt (wpAny_pure ⟨_, rfl, .int n, H', I'.tok _, ⟨_, rfl⟩, q⟩))
  | .ok .next, z => exact z.elim
  | .ok .brk, z => exact z.elim
  | .ok .cont, z => exact z.elim
end Fr

namespace Fr
open PySem PySem.Spec PyProof.Rows L2
/-- room, and nothing under repr -/
structure RoomG (k : Nat) (A : Around) : Prop where
  room : Room k A
  free : A.guards = some []
structure FnG (P : Program) (w : World) (K : PySem.W.Frag) (mg : Str → Option Value) (base : Heap) (k : Nat) (f : Addr) (fd : FuncData) (ps : List Str) (sp : Sp) : Prop where
  len : ∀ vs H Q E, sp vs H Q E → vs.length = ps.length
  go : ∀ (A : Around) (outer : List Env) (s : Shared) (H : Hp) (args : Args) (us : List Value) (vs : List V) (Q : VK) (E : XK), RoomG k A → Env0 P w K mg base A outer s H → BindsTo s fd args (ps.zip us) → Vals vs us → sp vs H Q E → codeAny (model P w) A (.call (.ref f) args) (CR CX0 outer P w H s Q E) s
section
variable {P : Program} {w : World} {K : PySem.W.Frag} {mg : Str → Option Value} {base : Heap}
/-- a def by its body -/
theorem fnG_of {k : Nat} {f : Addr} {x qual : Str} {pa : Arguments} {body : List Stmt} {sc : Scope} {dV kV doc pm cd ct oc : Value} {an od : Option Addr} {osl : Array (Option Value)} {N ps : List Str} {sp : Sp}
    (lk : K.lookup f = some ⟨oc, od, .func (PySem.W.fnOf x qual pa body sc dV kV doc pm an cd ct), osl⟩) (hcd : PySem.W.codeIn K cd qual = true) (S : FnScope N ps sc) (len : ∀ vs H Q E, sp vs H Q E → vs.length = ps.length)
    (hb : ∀ (A : Around) (outer : List Env) (s : Shared) (H : Hp) (vs : List V) (Q : VK) (E : XK), RoomG k (A.deeper (envOfC qual sc s.heap.objs.size f cd)) → sp vs H Q E → ∃ t, PSs (cxOf CX0 P w K mg base N qual sc f cd A outer s H E) body t ∧ t { nx := fun _ H' => Q .non H', rt := Q } (start N vs) H) :
    FnG P w K mg base (k + 1) f (PySem.W.fnOf x qual pa body sc dV kV doc pm an cd ct) ps sp where
  len := len
  go A outer s H args us vs Q E hr e0 bt rv hq := by
    have h1 : vs.length = ps.length := len _ _ _ _ hq
    have inK : K.In s.heap := e0.mod.kin.keeps fun b o z => (e0.bs b o z).1
    have noL : s.heap.NoLimit := e0.mod.nolimit.keeps fun b o z => (e0.bs b o z).1
    have kinds : ∀ y ∈ ps.zip us, sc.names.lookup y.1 = some .local ∨ (sc.names.lookup y.1 = some .cell ∧ ((cellsFrom (s.heap.objs.size + 1) sc.names []).lookup y.1).isSome = true) := by
      intro y hy
      obtain ⟨n, v⟩ := y
      cases S.par n (List.of_mem_zip hy).1 with
      | inl z => exact Or.inl z
      | inr z => exact Or.inr ⟨z, PySem.W.cellsFrom_some _ _ _ (Or.inl z)⟩
    refine codeAny_call_function hr.room.depth (inK _ _ lk) rfl S.co S.gen rfl (PySem.W.codeRec_of inK hcd) (bt _ _ _ _ (wpAny_newFunctionEnv_cells S.kind kinds ?_))
    rintro _ rfl s1 ic
    refine ⟨noL.keeps ic.toInCall.keep, codeAny_func ?_⟩
    obtain ⟨t, pt, ht⟩ := hb A outer s H vs Q E ⟨hr.room.deeper _, hr.free⟩ hq
    have I0 := inv_start (CX := CX0) (E := E) S hr.room.hd e0 h1 rv ic
    refine wpAny_mono (pt.run [] s1 (start N vs) H _ I0 ht) (fun fl s2 z => ?_) fun _ _ z => z
    cases fl with
    | next =>
      obtain ⟨_, H2, J, q⟩ := z
      exact ⟨V.non, H2, J.os, J.bare, J.base, J.hok, rfl, q⟩
    | ret u =>
      obtain ⟨v, _, H2, J, ru, q⟩ := z
      exact ⟨v, H2, J.os, J.bare, J.base, J.hok, ru, q⟩
    | brk => exact z.elim fun _ z => z.elim fun _ z => z.2.elim
    | cont => exact z.elim fun _ z => z.elim fun _ z => z.2.elim
theorem Fun_okG {x qual : Str} {st : Stmt} {f : Addr} {fd : FuncData} {N ps : List Str} {k : Nat} {sp : Sp} (F : Fun K x qual st f fd) (S : FnScope N ps (defScope st)) (len : ∀ vs H Q E, sp vs H Q E → vs.length = ps.length)
    (hb : ∀ (cd : Value) (A : Around) (outer : List Env) (s : Shared) (H : Hp) (vs : List V) (Q : VK) (E : XK), RoomG k (A.deeper (envOfC qual (defScope st) s.heap.objs.size f cd)) → sp vs H Q E →
      ∃ t, PSs (cxOf CX0 P w K mg base N qual (defScope st) f cd A outer s H E).nox (defBody st) t ∧ t { nx := fun _ H' => Q .non H', rt := Q } (start N vs) H) : FnG P w K mg base (k + 1) f fd ps sp := by
  obtain ⟨oc, od, kV, doc, pm, an, cd, ct, osl, rfl, lk, hcd⟩ := F.ex
  refine fnG_of lk hcd S len fun A outer s H vs Q E hr hq => ?_
  obtain ⟨t, pt, ht⟩ := hb cd A outer s H vs Q E hr hq
  exact ⟨t, pt.nox, ht⟩
/-- a def of this kind that may be called by its name -/
structure CalG (P : Program) (w : World) (K : PySem.W.Frag) (mg : Str → Option Value) (base : Heap) (k : Nat) (x : Str) (sp : Sp) : Prop where
  ex : ∃ (f : Addr) (fd : FuncData) (ps : List Str), FnG P w K mg base k f fd ps sp ∧ mg x = some (.ref f) ∧ PySem.W.keepIn K (.ref f) = true ∧ Binds K fd ps []
end
section
variable {X : Cx} {k j : Nat} {x : Str} {sp : Sp} {p pos : Pos} {e : Expr} {es : List Expr} {t : TA}
theorem pe_cG (c : CalG X.prog X.w X.K X.mg X.base k x sp) (hr : RoomG j X.A) (hk : k ≤ j) (hg : Gl X x) (ha : PA X (e :: es) t) (hdb : (x == ("__debug__" : Str)) = false := by decide)
    (he : starEach (e :: es) X.env = (false, eval e X.env) :: starEach es X.env := by rfl) (hpl : (backTo pos (starEach es X.env)).any (·.1) = false := by rfl) : PE X (.Call (.Name x p) (e :: es) [] pos) (tCall sp [] C8.E0 t) := by
  obtain ⟨f, fd, ps, F, hm, kp, hb⟩ := c.ex
  constructor
  intro pins s σ H Q I h
  refine wpAny_Call_Name_kw (ld_glob I hg hm (PySem.W.callWith_K (h₀ := X.base) I.ok.mod.kin kp (thn (ha.run pos pins s σ H _ I h) ?_) he hpl) hdb)
  rintro us s1 ⟨vs, H1, I1, r, q⟩
  refine ⟨I1.kIn, wpAny_call ?_⟩
  have r2 : Vals (vs ++ []) (us ++ []) := r.append .nil
  have hl : (us ++ ([] : List Value)).length = ps.length := r2.length.symm.trans (F.len _ _ _ _ q)
  refine codeAny_mono (F.go X.A X.stack s1 H1 ⟨us, []⟩ (us ++ []) (vs ++ []) Q C8.E0 ⟨hr.room.mono hk, hr.free⟩ I1.env0 (hb s1 us I1.kIn hl) r2 q) fun rs s2 z => ?_
  match rs, z with
  | .error er, z => exact pass0 (X := X) pins σ H1 s1 er s2 I1 z
  | .ok (.ret u), z => exact I1.after z
  | .ok .next, z => exact z.elim
  | .ok .brk, z => exact z.elim
  | .ok .cont, z => exact z.elim
/-- repr(e), e plain data -/
def rReprD (K : PySem.W.Frag) : List V → Hp → VK → Prop := fun xs H Q => ∃ (v : V) (d : PyData), xs = [v] ∧ Dp K H v d ∧ d.canLay0 = true ∧ d.showable = true ∧ d.depth ≤ 60 ∧ ((∃ i, d = .int i) ∨ d.shown.length ≤ sizeLine) ∧ Q (.str d.shown) H
theorem call_reprD (hg : X.A.guards = some []) (hu : X.A.units + 65 < cLine) : CallR X (.builtin "repr") (rReprD X.K) := by
  intro pins s σ H xs us Q I r h
  obtain ⟨v, d, rfl, hd, hc, hs, h6, hz, q⟩ := h
  obtain ⟨u, rfl, ru⟩ := vals1 r
  obtain ⟨as, rd⟩ := Dp.reads I d v u hd ru
  cases hd with
  | non =>
    cases (show u = Value.none from ru)
    simp only [PyData.shown] at q hz
    exact P.repr_of_none ⟨.str _, H, I.tok _, ⟨_, rfl⟩, q⟩
  | bl b =>
    cases (show u = Value.bool b from ru)
    simp only [PyData.shown] at q hz
    refine P.repr_of_bool ⟨.str _, H, I.tok _, ⟨_, rfl⟩, ?_⟩
    cases b <;> exact q
  | int i =>
    obtain ⟨t, rfl⟩ := (show ∃ t, u = Value.int i t from ru)
    simp only [PyData.shown] at q hz
    simp only [PyData.showable] at hs
    exact P.repr_of_int (of_decide_eq_true hs) ⟨.str _, H, I.tok _, ⟨_, rfl⟩, q⟩
  | str y =>
    obtain ⟨t, rfl⟩ := (show ∃ t, u = Value.str y t from ru)
    simp only [PyData.shown] at q hz
    exact P.repr_of_str ⟨.str _, H, I.tok _, ⟨_, rfl⟩, q⟩ (hz.resolve_left fun ⟨_, z⟩ => by cases z)
  | lst hq ha =>
    cases (show u = Value.ref _ from ru)
    exact repr_of_reads' rd hs (PyData.noDict_hsm (PyData.hasDict_of_canLay _ hc)) hg (by omega) (fun _ _ z => z) (fun h' t tk k => ⟨.str _, H, I.kept k, ⟨_, rfl⟩, q⟩) (hz.resolve_left fun ⟨_, z⟩ => by cases z)
  | tup hq ha =>
    cases (show u = Value.ref _ from ru)
    exact repr_of_reads' rd hs (PyData.noDict_hsm (PyData.hasDict_of_canLay _ hc)) hg (by omega) (fun _ _ z => z) (fun h' t tk k => ⟨.str _, H, I.kept k, ⟨_, rfl⟩, q⟩) (hz.resolve_left fun ⟨_, z⟩ => by cases z)
end
end Fr

namespace Fr
open PySem PySem.Spec PyProof.Rows L2
structure Shw (d : PyData) (k w : Nat) : Prop where
  lay : d.canLay0 = true
  sho : d.showable = true
  dep : d.depth ≤ k
  int : d.intsShort 13 = true
  wt : d.weight ≤ w
structure ShwA (ds : List PyData) (k w : Nat) : Prop where
  lay : PyData.canLayAll0 ds = true
  sho : PyData.showableAll ds = true
  dep : PyData.depthAll ds ≤ k
  int : PyData.intsShortAll 13 ds = true
  wt : PyData.weightAll ds ≤ w
theorem ShwA.nil {k : Nat} : ShwA [] k 0 := ⟨by simp [PyData.canLayAll0], by simp [PyData.showableAll], by simp [PyData.depthAll], by simp [PyData.intsShortAll], by simp [PyData.weightAll]⟩
theorem ShwA.cons {d : PyData} {ds : List PyData} {k w v u : Nat} (h : Shw d k w) (t : ShwA ds k v) (e : w + 1 + v ≤ u) : ShwA (d :: ds) k u :=
  ⟨by simp [PyData.canLayAll0, h.lay, t.lay], by simp [PyData.showableAll, h.sho, t.sho], by simp only [PyData.depthAll]; have := h.dep; have := t.dep; omega, by simp [PyData.intsShortAll, h.int, t.int],
    by simp only [PyData.weightAll]; have := h.wt; have := t.wt; omega⟩
theorem ShwA.c {d : PyData} {ds : List PyData} {k w v : Nat} (h : Shw d k w) (t : ShwA ds k v) : ShwA (d :: ds) k (w + 1 + v) := .cons h t (Nat.le_refl _)
theorem Shw.list {ds : List PyData} {k w : Nat} (h : ShwA ds k w) : Shw (.list ds) (k + 1) w :=
  ⟨by simp [PyData.canLay0, h.lay], by simp [PyData.showable, h.sho], by simp only [PyData.depth]; have := h.dep; omega, by simp [PyData.intsShort, h.int], by simp only [PyData.weight]; exact h.wt⟩
theorem Shw.tup {ds : List PyData} {k w : Nat} (h : ShwA ds k w) : Shw (.tuple ds) (k + 1) w :=
  ⟨by simp [PyData.canLay0, h.lay], by simp [PyData.showable, h.sho], by simp only [PyData.depth]; have := h.dep; omega, by simp [PyData.intsShort, h.int], by simp only [PyData.weight]; exact h.wt⟩
theorem Shw.one {i : Int} {k : Nat} (h : i.natAbs < 10 ^ 12) : Shw (.int i) k 40 := by
  have z := PyData.intsShortAll_ints [i] (by intro n hn; rw [List.mem_singleton.mp hn]; exact h)
  have hl : i.natAbs.log2 < 40 := by
    by_cases h0 : i.natAbs = 0
    · rw [h0]; decide
    · exact (Nat.log2_lt h0).mpr (Nat.lt_trans h (by decide))
  refine ⟨by simp [PyData.canLay0], by simp only [PyData.showable]; exact decide_eq_true (by omega), by simp [PyData.depth], ?_, ?_⟩
  · simp only [List.map_cons, List.map_nil, PyData.intsShortAll, Bool.and_eq_true] at z
    exact z.1
  · simp only [PyData.weight]
    split <;> omega
theorem Shw.str {x : Str} {k w : Nat} (h : PyData.strOk x = true) (e : x.length ≤ w) : Shw (.str x) k w :=
  ⟨by simpa [PyData.canLay0] using h, by simp [PyData.showable], by simp [PyData.depth], by simp [PyData.intsShort], by simp only [PyData.weight]; exact e⟩
theorem ShwA.map {α : Type} {f : α → PyData} {k w : Nat} : ∀ {xs : List α}, (∀ x ∈ xs, Shw (f x) k w) → ShwA (xs.map f) k (xs.length * (w + 1))
  | [], _ => by simpa using ShwA.nil
  | x :: xs, h => .cons (h x List.mem_cons_self) (ShwA.map fun y hy => h y (List.mem_cons_of_mem _ hy)) (by rw [List.length_cons, Nat.succ_mul]; omega)
theorem Shw.mono {d : PyData} {k w j v : Nat} (h : Shw d k w) (e : k ≤ j) (f : w ≤ v) : Shw d j v := ⟨h.lay, h.sho, Nat.le_trans h.dep e, h.int, Nat.le_trans h.wt f⟩
theorem ShwA.mono {d : List PyData} {k w j v : Nat} (h : ShwA d k w) (e : k ≤ j) (f : w ≤ v) : ShwA d j v := ⟨h.lay, h.sho, Nat.le_trans h.dep e, h.int, Nat.le_trans h.wt f⟩
/-- what repr asks -/
theorem Shw.asks {d : PyData} {k w : Nat} (h : Shw d k w) (e : k ≤ 60) (f : w ≤ 1000000) : d.canLay0 = true ∧ d.showable = true ∧ d.depth ≤ 60 ∧ ((∃ i, d = .int i) ∨ d.shown.length ≤ sizeLine) :=
  ⟨h.lay, h.sho, Nat.le_trans h.dep e, .inr (PyData.shown_fits (by decide) (by decide) (PyData.leavesShort_of_canLay0 13 d h.lay h.int) (Nat.le_trans h.wt (Nat.le_trans f (by decide))))⟩
theorem Shw.shaped {d : PyData} {k w : Nat} (h : Shw d k w) (e : k ≤ 60) : SeqAt.shaped d = true := by
  unfold SeqAt.shaped
  rw [h.lay, decide_eq_true (Nat.le_trans h.dep (Nat.le_trans e (by decide)))]
  rfl
end Fr

namespace Fr
open PySem PySem.Spec PyProof.Rows L2
def In2 (J1 : It) (g1 : TG) (tt1 : TT) (te : TE) (vs1 : List Nat) (D : Addr) (σ2 : L2.St) (H4 : Hp) (Nx : Hp → Prop) : Prop := ∃ W1 : Nat → Nat → Hp → Prop, (∃ m, W1 0 m H4) ∧ ∀ j k H, W1 j k H →
  (J1.stop j H ∧ Nx H) ∨ (J1.go j H ∧ ∃ Nx1 : Hp → Prop, (∀ H', Nx1 H' → ∃ k', k' < k ∧ W1 (j + 1) k' H') ∧ ∀ x H', J1.yld j H x H' → g1 x (wipe σ2 vs1) H' fun σ3 H5 => wipe σ3 vs1 = wipe σ2 vs1 ∧ tt1 σ3 H5 fun b H6 =>
    if b = true then te σ3 H6 fun y H7 => ∃ acc, H7 D = some (.lst acc) ∧ acc.length < sizeLine ∧ Nx1 (upd H7 D (.lst (acc ++ [y]))) else Nx1 H6)
theorem in2_mono {J1 : It} {g1 : TG} {tt1 : TT} {te : TE} {vs1 : List Nat} {D : Addr} {σ2 : L2.St} {H4 : Hp} {Nx Nx' : Hp → Prop} (h : In2 J1 g1 tt1 te vs1 D σ2 H4 Nx) (e : ∀ H, Nx H → Nx' H) : In2 J1 g1 tt1 te vs1 D σ2 H4 Nx' := by
  obtain ⟨W1, w0, st⟩ := h
  refine ⟨W1, w0, fun j k H w => ?_⟩
  rcases st j k H w with ⟨a, b⟩ | ⟨a, Nx1, b, c⟩
  · exact .inl ⟨a, e H b⟩
  · exact .inr ⟨a, Nx1, b, c⟩
theorem lc2_it {J : It} {n : Nat} {G : Hp → Prop} {Y : Nat → Hp → V → Hp → Prop} (w : Walk J n G Y) {g g1 : TG} {tt tt1 : TT} {wi1 : TI} {te : TE} {vs vs1 : List Nat} {σ : L2.St} {H1 : Hp} {D : Addr} {Qd : Hp → Prop} (Pv : Nat → Hp → Prop) (h0 : Pv 0 (upd H1 D (.lst []))) (hG : ∀ i H, i ≤ n → Pv i H → G H)
    (hs : ∀ i x H H', i < n → Pv i H → Y i H x H' → ∀ Nx : Hp → Prop, (∀ H, Pv (i + 1) H → Nx H) → g x (wipe σ vs) H' fun σ2 H2 => wipe σ2 vs = wipe σ vs ∧ tt σ2 H2 fun b H3 =>
      if b = true then wi1 σ2 H3 fun J1 H4 => In2 J1 g1 tt1 te vs1 D σ2 H4 Nx else Nx H3) (hd : ∀ H, Pv n H → Qd H) :
    ∃ W : Nat → Nat → Hp → Prop, (∃ m, W 0 m (upd H1 D (.lst []))) ∧ ∀ i m H, W i m H →
      (J.stop i H ∧ Qd H) ∨ (J.go i H ∧ ∃ Nx : Hp → Prop, (∀ H', Nx H' → ∃ m', m' < m ∧ W (i + 1) m' H') ∧ ∀ x H', J.yld i H x H' → g x (wipe σ vs) H' fun σ2 H2 => wipe σ2 vs = wipe σ vs ∧ tt σ2 H2 fun b H3 =>
        if b = true then wi1 σ2 H3 fun J1 H4 => In2 J1 g1 tt1 te vs1 D σ2 H4 Nx else Nx H3) := by
  refine ⟨fun i m H => m = n - i ∧ i ≤ n ∧ Pv i H, ⟨n, by simp, Nat.zero_le _, h0⟩, ?_⟩
  rintro i m H ⟨rfl, hi, p⟩
  have q := hG i H hi p
  by_cases hlt : i < n
  · exact .inr ⟨w.goes i H hlt q, Pv (i + 1), fun H' p' => ⟨n - (i + 1), by omega, rfl, hlt, p'⟩, fun x H' y => hs i x H H' hlt p (w.yields i H x H' hlt q y) _ fun _ h => h⟩
  · have e : i = n := by omega
    subst e
    exact .inl ⟨w.stops H q, hd H p⟩
theorem in2_it {J1 : It} {n : Nat} {G : Hp → Prop} {Y : Nat → Hp → V → Hp → Prop} (w : Walk J1 n G Y) {g1 : TG} {tt1 : TT} {te : TE} {vs1 : List Nat} {D : Addr} {σ2 : L2.St} {H4 : Hp} {Nx : Hp → Prop} (Pv : Nat → Hp → Prop) (h0 : Pv 0 H4) (hG : ∀ i H, i ≤ n → Pv i H → G H)
    (hs : ∀ i x H H', i < n → Pv i H → Y i H x H' → g1 x (wipe σ2 vs1) H' fun σ3 H5 => wipe σ3 vs1 = wipe σ2 vs1 ∧ tt1 σ3 H5 fun b H6 =>
      if b = true then te σ3 H6 fun y H7 => ∃ acc, H7 D = some (.lst acc) ∧ acc.length < sizeLine ∧ Pv (i + 1) (upd H7 D (.lst (acc ++ [y]))) else Pv (i + 1) H6) (hd : ∀ H, Pv n H → Nx H) : In2 J1 g1 tt1 te vs1 D σ2 H4 Nx := by
  refine ⟨fun i m H => m = n - i ∧ i ≤ n ∧ Pv i H, ⟨n, by simp, Nat.zero_le _, h0⟩, ?_⟩
  rintro i m H ⟨rfl, hi, p⟩
  have q := hG i H hi p
  by_cases hlt : i < n
  · exact .inr ⟨w.goes i H hlt q, Pv (i + 1), fun H' p' => ⟨n - (i + 1), by omega, rfl, hlt, p'⟩, fun x H' y => hs i x H H' hlt p (w.yields i H x H' hlt q y)⟩
  · have e : i = n := by omega
    subst e
    exact .inl ⟨w.stops H q, hd H p⟩
theorem unlock {H H' : Hp} {t : Addr} {od : PySem.Obj} {u : HO} (h : H t = some u) (s : Same (upd H t (.frz od u)) H') : Same H (upd H' t u) := fun b o e => by
  by_cases hb : b = t
  · rw [hb, upd_same]
    rw [hb, h] at e
    exact e
  · rw [upd_ne hb]
    exact s b o (by rw [upd_ne hb]; exact e)
theorem st_unlock {B H' : Hp} {t : Addr} {u v : HO} (s : Same B H') (h : B t = some u) (n : tupo u = false) : ST B (upd H' t v) := fun b o e d => by
  have hb : b ≠ t := fun z => by
    rw [z, h] at e
    cases e
    rw [n] at d
    cases d
  rw [upd_ne hb]
  exact s b o e
def nrD (x : Str × Nat) : PyData := .tuple [.str x.1, .int (x.2 : Nat)]
def nam1 (t : Tb) : List (Str × Nat) := (List.range t.rs.length).map fun i => (t.n, i)
def named (ts : List Tb) : List (Str × Nat) := ts.flatMap nam1
theorem named_take {ts : List Tb} {i : Nat} {t : Tb} (h : ts[i]? = some t) : named (ts.take (i + 1)) = named (ts.take i) ++ nam1 t := by
  unfold named
  rw [List.take_add_one, h, List.flatMap_append]
  simp
theorem named_len (ts : List Tb) : (named ts).length = (ts.map fun t => t.rs.length).sum := by
  unfold named
  rw [List.length_flatMap]
  congr 1
  refine List.map_congr_left fun t _ => ?_
  unfold nam1
  rw [List.length_map, List.length_range]
theorem mem_named {ts : List Tb} {x : Str} {i : Nat} : (x, i) ∈ named ts ↔ ∃ t ∈ ts, t.n = x ∧ i < t.rs.length := by
  unfold named nam1
  rw [List.mem_flatMap]
  constructor
  · rintro ⟨t, ht, h⟩
    obtain ⟨j, hj, e⟩ := List.mem_map.mp h
    cases e
    exact ⟨t, ht, rfl, List.mem_range.mp hj⟩
  · rintro ⟨t, ht, rfl, h⟩
    exact ⟨t, ht, List.mem_map.mpr ⟨i, List.mem_range.mpr h, rfl⟩⟩
theorem noL_nr (x : Str × Nat) : noL (nrD x) = true := rfl
theorem noL_tb_k (t : Tb) : noL t.k = true := noL_k t
theorem LD.ext {K : PySem.W.Frag} {H H' : Hp} {l : Addr} {ds : List PyData} (h : LD K H l ds) (e : LamX.ExtN H H') : LD K H' l ds := by
  obtain ⟨xs, h1, h2⟩ := h
  exact ⟨xs, e _ _ h1 (fun ps z => by cases z), dpsd (SD.ext e) _ _ h2⟩
theorem LD.st {K : PySem.W.Frag} {H H' : Hp} {l : Addr} {ds : List PyData} (h : LD K H l ds) (e : ST H H') (n : noLs ds = true) (f : H' l = H l) : LD K H' l ds := by
  obtain ⟨xs, h1, h2⟩ := h
  exact ⟨xs, by rw [f, h1], dpst e _ _ n h2⟩
theorem name_ok {x : Str} (h : isName x = true) : PyData.strOk x = true ∧ x.length ≤ 8 := by
  unfold isName at h
  rw [Bool.and_eq_true, Bool.and_eq_true] at h
  refine ⟨?_, by have := of_decide_eq_true h.1.2; omega⟩
  unfold PyData.strOk
  rw [Array.all_eq_true_iff_forall_mem]
  intro c hc
  have z := List.all_eq_true.mp h.2 c (Array.mem_toList_iff.mpr hc)
  unfold okSign at z
  rw [Bool.and_eq_true] at z
  have z2 : ¬ ([122] < [c]) := by simpa using z.2
  have : ¬ (122 < c) := fun q => z2 (by rw [List.cons_lt_cons_iff]; exact Or.inl q)
  exact decide_eq_true (by omega)
structure Lay (d : PyData) (k : Nat) : Prop where
  lay : d.canLay0 = true
  dep : d.depth ≤ k
structure LayA (ds : List PyData) (k : Nat) : Prop where
  lay : PyData.canLayAll0 ds = true
  dep : PyData.depthAll ds ≤ k
theorem LayA.nil {k : Nat} : LayA [] k := ⟨by simp [PyData.canLayAll0], by simp [PyData.depthAll]⟩
theorem LayA.cons {d : PyData} {ds : List PyData} {k : Nat} (h : Lay d k) (t : LayA ds k) : LayA (d :: ds) k := ⟨by simp [PyData.canLayAll0, h.lay, t.lay], by simp only [PyData.depthAll]; have := h.dep; have := t.dep; omega⟩
theorem LayA.map {α : Type} {f : α → PyData} {k : Nat} : ∀ {xs : List α}, (∀ x ∈ xs, Lay (f x) k) → LayA (xs.map f) k
  | [], _ => .nil
  | x :: xs, h => .cons (h x List.mem_cons_self) (LayA.map fun y hy => h y (List.mem_cons_of_mem _ hy))
theorem Lay.int {i : Int} {k : Nat} : Lay (.int i) k := ⟨by simp [PyData.canLay0], by simp [PyData.depth]⟩
theorem Lay.str {x : Str} {k : Nat} (h : PyData.strOk x = true) : Lay (.str x) k := ⟨by simpa [PyData.canLay0] using h, by simp [PyData.depth]⟩
theorem Lay.list {ds : List PyData} {k : Nat} (h : LayA ds k) : Lay (.list ds) (k + 1) := ⟨by simp [PyData.canLay0, h.lay], by simp only [PyData.depth]; have := h.dep; omega⟩
theorem Lay.tup {ds : List PyData} {k : Nat} (h : LayA ds k) : Lay (.tuple ds) (k + 1) := ⟨by simp [PyData.canLay0, h.lay], by simp only [PyData.depth]; have := h.dep; omega⟩
theorem Lay.shaped {d : PyData} {k : Nat} (h : Lay d k) (e : k ≤ 60) : SeqAt.shaped d = true := by
  unfold SeqAt.shaped
  rw [h.lay, decide_eq_true (Nat.le_trans h.dep (Nat.le_trans e (by decide)))]
  rfl
theorem lay_rd {d : Int} {r : Rd1} (h : isRead d r = true) : Lay r.d 2 := by
  unfold isRead at h
  rw [Bool.and_eq_true] at h
  exact .tup (.cons (.str (name_ok h.1).1) (.cons (.tup (.map fun _ _ => .int)) (.cons .int .nil)))
theorem lay_k {d : Int} {ts : List Tb} (O : OkT d ts) {t : Tb} (h : t ∈ ts) : Lay t.k 4 := .tup (.cons .int (.cons (.tup (.map fun r hr => lay_rd (O.reads t h r hr))) .nil))
theorem lay_tb {d : Int} {ts : List Tb} (O : OkT d ts) {t : Tb} (h : t ∈ ts) : Lay t.d 4 := .tup (.cons (.str (name_ok (O.names t h)).1) (.cons .int (.cons (.list (.map fun r hr => lay_rd (O.reads t h r hr))) .nil)))
theorem lay_nr {x : Str × Nat} (h : isName x.1 = true) : Lay (nrD x) 1 := .tup (.cons (.str (name_ok h).1) (.cons .int .nil))
theorem lay_named {d : Int} {ts : List Tb} (O : OkT d ts) {x : Str × Nat} (h : x ∈ named ts) : Lay (nrD x) 1 := by
  obtain ⟨t, ht, e, _⟩ := mem_named.mp (show (x.1, x.2) ∈ named ts from h)
  exact lay_nr (by rw [← e]; exact O.names t ht)
theorem eqv_nr (a b : Str × Nat) : PyData.eqv (nrD a) (nrD b) = decide (a = b) := by
  obtain ⟨x, i⟩ := a
  obtain ⟨y, j⟩ := b
  unfold nrD
  simp only [PyData.eqv, PyData.eqvAll, Bool.and_true]
  by_cases h1 : x = y
  · by_cases h2 : i = j
    · subst h1 h2
      simp
    · have : ¬ ((i : Int) = (j : Int)) := by omega
      simp [h2, this]
  · simp [h1]
theorem KvAt.ext {K : PySem.W.Frag} {H H' : Hp} (e : LamX.ExtN H H') {kvs : List (Key × V)} {ts : List Tb} (h : KvAt K H kvs ts) : KvAt K H' kvs ts := h.monoD (SD.ext e)
theorem SysAt.ext {K : PySem.W.Frag} {C : Addr} {H H' : Hp} {s : Addr} {d m : Int} {ts : List Tb} (e : LamX.ExtN H H') (h : SysAt K C H s d m ts) : SysAt K C H' s d m ts := by
  obtain ⟨dx, t, kvs, h1, h2, h3⟩ := h.ob
  exact ⟨dx, t, kvs, e _ _ h1 (fun ps z => by cases z), e _ _ h2 (fun ps z => by cases z), h3.ext e⟩
def tabEq (ts us : List Tb) : Bool := ts.length == us.length && ts.all fun t => match us.find? (fun u => decide (u.n = t.n)) with
  | none => false
  | some u => PyData.eqv t.k u.k
theorem kvEq_of {K : PySem.W.Frag} {H : Hp} {ls : List (Key × V)} {us : List Tb} (hl : KvAt K H ls us) (su : ∀ u ∈ us, SeqAt.shaped u.k = true) : ∀ {ks : List (Key × V)} {ts : List Tb}, KvAt K H ks ts → (∀ t ∈ ts, SeqAt.shaped t.k = true) →
    KvEq K H ls ks (ts.all fun t => match us.find? (fun u => decide (u.n = t.n)) with
      | none => false
      | some u => PyData.eqv t.k u.k)
  | [], _, h, _ => by
    cases h
    exact .nil
  | (k, v) :: ks, _, h, st => by
    cases h with
    | @cons _ t _ ts h1 h2 =>
      obtain ⟨e1, e2⟩ := h1
      have e1 : k = Sum.inr t.n := e1
      subst e1
      have ih := kvEq_of hl su h2 fun t ht => st t (List.mem_cons_of_mem _ ht)
      rw [List.all_cons]
      cases hf : us.find? (fun u => decide (u.n = t.n)) with
      | none =>
        refine .miss (hl.noVal fun hm => ?_)
        obtain ⟨u, hu, e⟩ := List.mem_map.mp hm
        have z := List.find?_eq_none.mp hf u hu
        exact z (decide_eq_true e)
      | some u =>
        obtain ⟨y, y1, y2⟩ := hl.get hf
        exact .hit y1 e2 y2 (st t List.mem_cons_self) (su u (List.mem_of_find?_eq_some hf)) ih
theorem find_nodup' {ts : List Tb} (hn : (ts.map (·.n)).Nodup) {t : Tb} (h : t ∈ ts) : ts.find? (fun u => decide (u.n = t.n)) = some t := find_nodup hn h rfl
theorem tabEq_refl {ts : List Tb} (hn : (ts.map (·.n)).Nodup) (st : ∀ t ∈ ts, SeqAt.shaped t.k = true) : tabEq ts ts = true := by
  unfold tabEq
  rw [Bool.and_eq_true]
  refine ⟨by simp, List.all_eq_true.mpr fun t ht => ?_⟩
  rw [find_nodup' hn ht]
  exact SeqAt.eqv_refl _ (SeqAt.canLay_of_shaped (st t ht))
end Fr

namespace Fr
open PySem PySem.Spec PyProof.Rows L2
theorem ltCps_iff : ∀ a b : List Nat, ltCps a b = true ↔ a < b
  | [], [] => by simp [ltCps]
  | [], b :: t => by simp [ltCps]
  | a :: r, [] => by simp [ltCps]
  | a :: r, b :: t => by
    rw [List.cons_lt_cons_iff, ← ltCps_iff r t]
    simp [ltCps]
theorem rising_pw : ∀ (l : List Str) (p : Str), risingS p l = true → (p :: l).Pairwise fun a b => a.cps.toList ≤ b.cps.toList
  | [], p, _ => by simp
  | x :: r, p, h => by
    unfold risingS at h
    rw [Bool.and_eq_true] at h
    have ih := rising_pw r x h.2
    have hx : p.cps.toList ≤ x.cps.toList := fun z => by
      have := (ltCps_iff x.cps.toList p.cps.toList).mpr z
      rw [this] at h
      exact Bool.noConfusion h.1
    rw [List.pairwise_cons]
    refine ⟨fun y hy => ?_, ih⟩
    rcases List.mem_cons.mp hy with rfl | hy
    · exact hx
    · exact List.le_trans hx ((List.pairwise_cons.mp ih).1 y hy)
theorem sorted_pw {l : List Str} (h : sortedS l = true) : l.Pairwise fun a b => a.cps.toList ≤ b.cps.toList := by
  cases l with
  | nil => exact .nil
  | cons x r => exact rising_pw r x h
theorem str_antisymm {a b : Str} (h : a.cps.toList ≤ b.cps.toList) (k : b.cps.toList ≤ a.cps.toList) : a = b := by
  have e := List.le_antisymm h k
  obtain ⟨a⟩ := a
  obtain ⟨b⟩ := b
  have e : a.toList = b.toList := e
  rw [Array.toList_inj.mp e]
theorem srt_pw (ts : List Tb) : ((srt ts).map (·.n)).Pairwise fun a b => a.cps.toList ≤ b.cps.toList := by
  rw [List.pairwise_map]
  have h := List.pairwise_mergeSort (le := leK Tb.n) (fun a b c h1 h2 => decide_eq_true (List.le_trans (of_decide_eq_true h1) (of_decide_eq_true h2))) (fun a b => by
    unfold leK
    rw [Bool.or_eq_true, decide_eq_true_eq, decide_eq_true_eq]
    exact List.le_total _ _) ts
  exact h.imp fun h => of_decide_eq_true h
theorem srt_perm (ts : List Tb) : (srt ts).Perm ts := List.mergeSort_perm ts (leK Tb.n)
theorem sorted_names {ys : List Str} {ts : List Tb} (p : ys.Perm (ts.map (·.n))) (h : sortedS ys = true) : ys = (srt ts).map (·.n) :=
  List.Perm.eq_of_pairwise (fun _ _ _ _ h k => str_antisymm h k) (sorted_pw h) (srt_pw ts) (p.trans ((srt_perm ts).map (·.n)).symm)
/-- one order alone -/
theorem srt_same {ts us : List Tb} (p : ts.Perm us) (n : (ts.map (·.n)).Nodup) : srt ts = srt us := by
  have e : (srt ts).map (·.n) = (srt us).map (·.n) := List.Perm.eq_of_pairwise (fun _ _ _ _ h k => str_antisymm h k) (srt_pw ts) (srt_pw us) ((((srt_perm ts).trans p).trans (srt_perm us).symm).map (·.n))
  have hp : (srt ts).Perm (srt us) := ((srt_perm ts).trans p).trans (srt_perm us).symm
  have hl : (srt ts).length = (srt us).length := hp.length_eq
  refine List.ext_getElem? fun i => ?_
  cases h : (srt ts)[i]? with
  | none =>
    rw [List.getElem?_eq_none_iff] at h
    rw [List.getElem?_eq_none (by omega)]
  | some t =>
    have hi : i < (srt us).length := by
      have := (List.getElem?_eq_some_iff.mp h).1
      omega
    rw [List.getElem?_eq_getElem hi]
    have h1 : ((srt us).map (·.n))[i]? = some t.n := by rw [← e, List.getElem?_map, h]; rfl
    rw [List.getElem?_map, List.getElem?_eq_getElem hi] at h1
    have h2 : ((srt us)[i]).n = t.n := Option.some.inj h1
    have m1 : t ∈ srt us := hp.mem_iff.mp (List.mem_of_getElem? h)
    have m2 : (srt us)[i] ∈ srt us := List.getElem_mem hi
    have nn : ((srt us).map (·.n)).Nodup := (((srt_perm us).trans p.symm).map (·.n)).nodup_iff.mpr n
    have f1 := find_nodup (x := t.n) nn m1 rfl
    have f2 := find_nodup (x := t.n) nn m2 h2
    rw [f1] at f2
    exact f2
end Fr

namespace Fr
open PySem PySem.Spec PyProof.Rows L2
abbrev s_System_len : Stmt := inClass (topS 19) 1
theorem sc_System_len : FnScope ["self"] ["self"] (defScope s_System_len) := ⟨rfl, rfl, rfl, by decide +kernel, rfl, by decide +kernel, by decide +kernel⟩
-- slots: 0 self
abbrev s_System_eq : Stmt := inClass (topS 19) 2
theorem sc_System_eq : FnScope ["self", "other"] ["self", "other"] (defScope s_System_eq) := ⟨rfl, rfl, rfl, by decide +kernel, rfl, by decide +kernel, by decide +kernel⟩
-- slots: 0 self, 1 other
abbrev s_System_constant : Stmt := inClass (topS 19) 6
theorem sc_System_constant : FnScope ["self", "name"] ["self", "name"] (defScope s_System_constant) := ⟨rfl, rfl, rfl, by decide +kernel, rfl, by decide +kernel, by decide +kernel⟩
-- slots: 0 self, 1 name
abbrev s_System_all_reads : Stmt := inClass (topS 19) 8
theorem sc_System_all_reads : FnScope ["self", "name", "number"] ["self"] (defScope s_System_all_reads) := ⟨rfl, rfl, rfl, by decide +kernel, rfl, by decide +kernel, by decide +kernel⟩
-- slots: 0 self, 1 name, 2 number
abbrev s_Systemwith_tables : Stmt := inClass (topS 19) 15
theorem sc_Systemwith_tables : FnScope ["self", "tables", "made", "name"] ["self", "tables"] (defScope s_Systemwith_tables) := ⟨rfl, rfl, rfl, by decide +kernel, rfl, by decide +kernel, by decide +kernel⟩
-- slots: 0 self, 1 tables, 2 made, 3 name
section
variable {P : Program} {w : World} {K : PySem.W.Frag} {mg : Str → Option Value} {base : Heap}
def spLenS (K : PySem.W.Frag) (C : Addr) : Sp := fun vs H Q _ => ∃ (s : Addr) (d m : Int) (ts : List Tb), vs = [.ref s] ∧ SysAt K C H s d m ts ∧ Q (.int (ts.length : Nat)) H
theorem ok_lenS {f C : Addr} {fd : FuncData} (F : Fun K "__len__" "System.__len__" s_System_len f fd) (T : Txt mg) (TC : TxtC K mg C) : FnOk P w K mg base CX0 1 f fd ["self"] (spLenS K C) := by
  refine F.ok sc_System_len (fun vs H Q E h => ?_) (fun cdv A outer s H vs Q E hr h => ?_)
  · obtain ⟨s, d, m, ts, rfl, _⟩ := h
    rfl
  · obtain ⟨s, d, m, ts, rfl, S, q⟩ := h
    refine ⟨_, (pss_one (ps_ret (pe_callB call_lenD (by rfl) T.b_len PySem.boot_len (pa_cons (pe_fld (pv 0) rfl) pa_nil)))), ?_⟩
    obtain ⟨dx, t, kvs, h1, h2, h3⟩ := S.ob
    refine ⟨_, rfl, s, C, dx, _, _, rfl, h1, TC.cl, TC.nT, flds_t _ _ _, t, kvs, rfl, h2, ?_⟩
    rw [h3.len]
    exact q
def spSysEq (K : PySem.W.Frag) (C : Addr) : Sp := fun vs H Q _ => ∃ (a b : Addr) (d m d' m' : Int) (ts us : List Tb), vs = [.ref a, .ref b] ∧ SysAt K C H a d m ts ∧ SysAt K C H b d' m' us ∧ (∀ t ∈ ts, SeqAt.shaped t.k = true) ∧ (∀ t ∈ us, SeqAt.shaped t.k = true) ∧
  Q (.bl (decide (d = d') && (decide (m = m') && tabEq ts us))) H
theorem dec_int (a b : Int) : decide (V.int a = V.int b) = decide (a = b) := decide_eq_decide.mpr ⟨fun h => V.int.inj h, fun h => congrArg V.int h⟩
theorem ok_eqS {f C : Addr} {fd : FuncData} (F : Fun K "__eq__" "System.__eq__" s_System_eq f fd) (T : Txt mg) (TC : TxtC K mg C) (zi : mg "isinstance" = none) (isC : C8.InsC K C) : FnOk P w K mg base CX0 1 f fd ["self", "other"] (spSysEq K C) := by
  refine F.ok sc_System_eq (fun vs H Q E h => ?_) (fun cdv A outer s H vs Q E hr h => ?_)
  · obtain ⟨a, b, d, m, d', m', ts, us, rfl, _⟩ := h
    rfl
  · obtain ⟨a, b, d, m, d', m', ts, us, rfl, S, S', st, su, q⟩ := h
    refine ⟨_, (pss_one (ps_ret (pe_and (pe_callB (C8.call_isC isC) (by rfl) zi (by decide +kernel) (pa_cons (pv 1) (pa_cons (pe_glob (v := .ref C) (by rfl) TC.g_System rfl) pa_nil))) (pe_and (pe_cmpR op_eq (pe_fld (pv 0) rfl) (pe_fld (pv 1) rfl) (nomark _)) (pe_and (pe_cmpR op_eq (pe_fld (pv 0) rfl) (pe_fld (pv 1) rfl) (nomark _)) (pe_one (pe_cmpR (op_eqKv hr.units1) (pe_fld (pv 0) rfl) (pe_fld (pv 1) rfl) (nomark _)))))))), ?_⟩
    obtain ⟨dx, t, kvs, h1, h2, h3⟩ := S.ob
    obtain ⟨dx', t', kvs', h1', h2', h3'⟩ := S'.ob
    refine ⟨_, rfl, b, dx', _, rfl, h1', _, rfl, iteT ?_⟩
    refine ⟨_, rfl, a, C, dx, _, _, rfl, h1, TC.cl, TC.nD, flds_d _ _ _, _, rfl, b, C, dx', _, _, rfl, h1', TC.cl, TC.nD, flds_d _ _ _, rfl, _, rfl, ?_⟩
    rw [dec_int]
    cases e1 : decide (d = d') with
    | false =>
      rw [e1] at q
      exact iteF q
    | true =>
      rw [e1, Bool.true_and] at q
      refine iteT ?_
      refine ⟨_, rfl, a, C, dx, _, _, rfl, h1, TC.cl, TC.nM, flds_m _ _ _, _, rfl, b, C, dx', _, _, rfl, h1', TC.cl, TC.nM, flds_m _ _ _, rfl, _, rfl, ?_⟩
      rw [dec_int]
      cases e2 : decide (m = m') with
      | false =>
        rw [e2] at q
        exact iteF q
      | true =>
        rw [e2, Bool.true_and] at q
        refine iteT ?_
        refine ⟨_, rfl, a, C, dx, _, _, rfl, h1, TC.cl, TC.nT, flds_t _ _ _, _, rfl, b, C, dx', _, _, rfl, h1', TC.cl, TC.nT, flds_t _ _ _, t, t', kvs, kvs', _, rfl, rfl, h2, h2', fun _ => kvEq_of h3' su h3 st, ?_⟩
        unfold tabEq at q
        rw [h3.len, h3'.len]
        exact q
def spConst (K : PySem.W.Frag) (C : Addr) : Sp := fun vs H Q _ => ∃ (s : Addr) (d m : Int) (ts : List Tb) (x : Str) (tb : Tb), vs = [.ref s, .str x] ∧ SysAt K C H s d m ts ∧ x ∈ ts.map (·.n) ∧ ts.find? (fun t => decide (t.n = x)) = some tb ∧ ∀ H', Same H H' → Q (.int tb.c) H'
theorem ok_const {f C : Addr} {fd : FuncData} (F : Fun K "constant" "System.constant" s_System_constant f fd) (T : Txt mg) (TC : TxtC K mg C) (c_check_table : C8.Cal P w K mg base 3 "check_table" (spCheckTable K C) []) : FnOk P w K mg base CX0 4 f fd ["self", "name"] (spConst K C) := by
  refine F.ok sc_System_constant (fun vs H Q E h => ?_) (fun cdv A outer s H vs Q E hr h => ?_)
  · obtain ⟨s, d, m, ts, x, tb, rfl, _⟩ := h
    rfl
  · obtain ⟨s, d, m, ts, x, tb, rfl, S, hx, hf, q⟩ := h
    have hu := hu_of hr
    refine ⟨_, (pss_cons (ps_expr (C8.pe_c c_check_table hr (by decide) (by rfl) (pa_cons (pv 0) (pa_cons (pv 1) pa_nil))))
  (pss_one (ps_ret (pe_ix ix_tup (pe_dget hu (pe_fld (pv 0) rfl) (pv 1) (fun _ _ => rfl)) pe_int (fun _ _ => rfl))))), ?_⟩
    refine ⟨_, rfl, _, rfl, s, d, m, ts, x, rfl, S, hx, fun H1 sm => ?_⟩
    obtain ⟨dx, t, kvs, h1, h2, h3⟩ := (S.mono sm).ob
    obtain ⟨v, e1, e2⟩ := h3.get hf
    obtain ⟨a, ys, rfl, ht, hd⟩ := dtup e2
    obtain ⟨y1, y2, rfl, g1, g2⟩ := dps2 hd
    obtain rfl := dint g1
    refine ⟨_, rfl, s, C, dx, _, _, rfl, h1, TC.cl, TC.nT, flds_t _ _ _, _, rfl, t, _, rfl, ?_, a, _, 0, _, rfl, rfl, ht, rfl, q H1 sm⟩
    have g := DGet.k (k := Sum.inr x) h2
    rw [e1] at g
    exact g
def spAll (K : PySem.W.Frag) (C : Addr) : Sp := fun vs H Q _ => ∃ (s : Addr) (d m : Int) (ts : List Tb), vs = [.ref s] ∧ SysAt K C H s d m ts ∧ (ts.map (·.n)).Nodup ∧ (ts.map fun t => t.rs.length).sum ≤ 1000 ∧ ∀ p H', H p = none → Same H H' → LD K H' p ((named ts).map nrD) → Q (.ref p) H'
theorem DGet.frz {H : Hp} {a : Addr} {o : PySem.Obj} {kvs : List (Key × V)} {k : Key} (e : H a = some (.frz o (.dK kvs))) : DGet H a (kV k) (valV kvs k) := .inl ⟨kvs, k, .inr ⟨o, e⟩, rfl, rfl⟩
theorem kv_at {H : Hp} : ∀ {kvs : List (Key × V)} {ts : List Tb} {i : Nat} {k : Key} {v : V}, KvAt K H kvs ts → kvs[i]? = some (k, v) → ∃ t, ts[i]? = some t ∧ k = Sum.inr t.n ∧ Dp K H v t.k
  | [], _, _, _, _, h, e => by cases e
  | p :: kvs, _, 0, k, v, h, e => by
    cases h with
    | cons h1 h2 =>
      cases e
      exact ⟨_, rfl, h1⟩
  | p :: kvs, _, i + 1, k, v, h, e => by
    cases h with
    | cons h1 h2 => exact kv_at (i := i) h2 (by simpa using e)
theorem st_upd {H : Hp} {t : Addr} {u v : HO} (h : H t = some u) (n : tupo u = false) : ST H (upd H t v) := fun b o e d => by
  have hb : b ≠ t := fun z => by
    rw [z, h] at e
    cases e
    rw [n] at d
    cases d
  rw [upd_ne hb]
  exact e
theorem ok_all {f C : Addr} {fd : FuncData} (F : Fun K "all_reads" "System.all_reads" s_System_all_reads f fd) (T : Txt mg) (TC : TxtC K mg C) : FnOk P w K mg base CX0 1 f fd ["self"] (spAll K C) := by
  refine F.ok sc_System_all_reads (fun vs H Q E h => ?_) (fun cdv A outer sh H vs Q E hr h => ?_)
  · obtain ⟨s, d, m, ts, rfl, _⟩ := h
    rfl
  · obtain ⟨s, d, m, ts, rfl, S, hn, hfew, q⟩ := h
    have hu := hu_of hr
    refine ⟨_, (pss_one (ps_ret (pe_lock (pe_lc2 (own := [("name", 1), ("number", 2)]) (vs1 := [2]) (g := gName 1) (g1 := gName 2) (tt := tYes) (tt1 := tYes) (by rfl) sc_System_all_reads.nd (pi_keys (pe_fld (pv 0) rfl)) (blkOk_by (N := ["self", "name", "number"]) (sc := defScope s_System_all_reads) (by decide +kernel)) (by decide) (fun _ _ _ _ _ => (pg_name (i := 1) sc_System_all_reads.nd rfl (by first | exact Or.inl rfl | exact Or.inr rfl))) (fun _ _ _ _ _ => pts_nil) (fun _ _ _ _ _ => (pi_range1 (by rfl) T.b_range (pa_cons (pe_callB (r := Evl.rLenS K) call_len_seq (by rfl) T.b_len PySem.boot_len (pa_cons (pe_ix (r := rIxT K) ix_tup (pe_dget hu (pe_fldK (K' := K) (pv 0)) (pv 1) (fun _ _ => rfl)) pe_int (fun _ _ => rfl)) pa_nil)) pa_nil))) (fun _ _ _ _ _ => (pg_name (i := 2) sc_System_all_reads.nd rfl (by first | exact Or.inl rfl | exact Or.inr rfl))) (fun _ _ _ _ _ => pts_nil) (fun _ _ _ _ _ => (pe_tup (pa_cons (pv 1) (pa_cons (pv 2) pa_nil)))))))), ?_⟩
    obtain ⟨dx, t, kvs, h1, h2, h3⟩ := S.ob
    have nst : s ≠ t := fun z => by
      rw [z, h2] at h1
      cases h1
    refine ⟨t, .dK kvs, h2, True.intro, fun od => ?_⟩
    have l1 : (upd H t (.frz od (.dK kvs))) s = some (.ins C dx (flds d m t)) := by rw [upd_ne nst]; exact h1
    have l2 : (upd H t (.frz od (.dK kvs))) t = some (.frz od (.dK kvs)) := upd_same
    have l3 : KvAt K (upd H t (.frz od (.dK kvs))) kvs ts := kvt (st_upd h2 rfl) h3
    have back : ∀ H', Same (upd H t (.frz od (.dK kvs))) H' → Same H (upd H' t (.dK kvs)) := fun H' e => unlock h2 e
    generalize hL : upd H t (.frz od (.dK kvs)) = HL at l1 l2 l3 back
    refine ⟨_, rfl, s, C, dx, _, _, rfl, l1, TC.cl, TC.nT, flds_t _ _ _, t, od, rfl, Or.inl ⟨kvs, l2, fun D hD => ?_⟩⟩
    refine lc2_it (walk_keys (o := od) (d := t) (kvs := kvs)) (fun i H' => ∃ (B : Hp) (xs : List V), Same HL B ∧ B D = none ∧ Same B H' ∧ H' D = some (.lst xs) ∧ DpAll K B xs ((named (ts.take i)).map nrD))
      ⟨HL, [], same_refl, hD, snew hD, upd_same, .nil⟩ (fun i H' _ ⟨B, xs, b1, _, b3, _⟩ => b3 _ _ (b1 _ _ l2)) ?_ ?_
    · rintro i x Hi _ hi ⟨B, xs, b1, b2, b3, b4, b5⟩ ⟨rfl, k, v, hk, rfl⟩ Nx hNx
      obtain ⟨tb, ht, rfl, hv⟩ := kv_at l3 hk
      have hf := find_nodup' hn (List.mem_of_getElem? ht)
      obtain ⟨v', e1, e2⟩ := l3.get hf
      have sBi := same_tr b1 b3
      refine ⟨rfl, yes_if ?_⟩
      obtain ⟨a, ys, rfl, hta, hda⟩ := dtup (dpm sBi _ _ e2)
      obtain ⟨y1, y2, rfl, g1, g2⟩ := dps2 hda
      obtain ⟨b, zs, rfl, htb, hdb⟩ := dtup g2
      have hzl : zs.length = tb.rs.length := by rw [dps_len hdb, List.length_map]
      have hrl : tb.rs.length ≤ 1000 := Nat.le_trans (mem_le_sum (f := fun t : Tb => t.rs.length) (List.mem_of_getElem? ht)) hfew
      refine ⟨_, rfl, s, C, dx, _, _, rfl, sBi _ _ l1, TC.cl, TC.nT, flds_t _ _ _, _, rfl, t, _, rfl, ?_, a, _, 1, _, rfl, rfl, hta, rfl, b, zs, rfl, Or.inr htb, (zs.length : Int), rfl, by omega, by omega, ?_⟩
      · have g := DGet.frz (k := Sum.inr tb.n) (sBi _ _ l2)
        rw [e1] at g
        exact g
      · have htn : ((zs.length : Int)).toNat = tb.rs.length := by omega
        rw [htn]
        refine in2_it walk_range (fun j H' => ∃ (B : Hp) (xs : List V), Same HL B ∧ B D = none ∧ Same B H' ∧ H' D = some (.lst xs) ∧ DpAll K B xs ((named (ts.take i) ++ (List.range j).map fun n => (tb.n, n)).map nrD))
          ⟨B, xs, b1, b2, b3, b4, by rw [List.range_zero, List.map_nil, List.append_nil]; exact b5⟩ (fun _ _ _ _ => True.intro) ?_ ?_
        · rintro j y _ Hj hj ⟨B2, xs2, c1, c2, c3, c4, c5⟩ ⟨rfl, rfl⟩
          refine ⟨rfl, yes_if ?_⟩
          refine ⟨_, rfl, _, rfl, (by show 2 ≤ sizeLine; decide), fun u hu2 => ?_⟩
          have nu : u ≠ D := fun z => by
            rw [z, c4] at hu2
            cases hu2
          have bu := free_of c3 hu2
          have c3' : Same (upd B2 u (.tup [.str tb.n, .int (0 + (j : Int))])) (upd Hj u (.tup [.str tb.n, .int (0 + (j : Int))])) := sgrow c3
          have bD : (upd B2 u (.tup [.str tb.n, .int (0 + (j : Int))])) D = none := by
            rw [upd_ne nu.symm]
            exact c2
          have hxl : xs2.length ≤ 2000 := by
            rw [dps_len c5, List.length_map, List.length_append, named_len, List.length_map, List.length_range]
            have e := congrArg (fun l : List Tb => (l.map fun t => t.rs.length).sum) (List.take_append_drop i ts)
            simp only [List.map_append, List.sum_append] at e
            omega
          refine ⟨xs2, by rw [upd_ne nu.symm]; exact c4, Nat.lt_of_le_of_lt hxl (by rw [sizeLine_eq]; decide), _, xs2 ++ [.ref u], same_tr c1 (snew bu), bD, swrite c3' bD, upd_same, ?_⟩
          have e : named (ts.take i) ++ (List.range (j + 1)).map (fun n => (tb.n, n)) = (named (ts.take i) ++ (List.range j).map fun n => (tb.n, n)) ++ [(tb.n, j)] := by
            rw [List.range_succ, List.map_append, List.append_assoc]
            rfl
          rw [e, List.map_append]
          refine dps_snoc (dpsm (snew bu) _ _ c5) (.tup (Or.inl (Or.inl upd_same)) (.cons (.str _) (.cons ?_ .nil)))
          rw [Int.zero_add]
          exact .int _
        · rintro H' ⟨B2, xs2, c1, c2, c3, c4, c5⟩
          refine hNx _ ⟨B2, xs2, c1, c2, c3, c4, ?_⟩
          rw [named_take ht]
          exact c5
    · rintro H' ⟨B, xs, b1, b2, b3, b4, b5⟩
      have hlt : kvs.length = ts.length := h3.len
      rw [hlt, List.take_length] at b5
      have tD : D ≠ t := fun z => by
        rw [z, l2] at hD
        cases hD
      refine ⟨b3 _ _ (b1 _ _ l2), q D _ ?_ (back _ (same_tr b1 b3)) ⟨xs, by rw [upd_ne tD]; exact b4, dpst (st_unlock b3 (b1 _ _ l2) rfl) _ _ (noLs_map noL_nr _) b5⟩⟩
      rw [← hL, upd_ne tD] at hD
      exact hD
end
end Fr

namespace Fr
open PySem PySem.Spec PyProof.Rows L2
theorem putF_flds (d m : Int) (t t' : Addr) : putF "_tables" (.ref t') (flds d m t) = flds d m t' := by
  unfold flds
  simp only [putF, if_neg nDM, if_neg nDT, if_neg nMT, if_true]
def bare : Tb := ⟨"a", 0, []⟩
theorem bare_ok {d m : Int} (h1 : 1 ≤ d) (h3 : d ≤ 3) (hm : 2 ≤ m) : OkSys d m [bare] :=
  ⟨h1, h3, hm, by decide, by decide, ⟨(by intro t ht; rw [List.mem_singleton.mp ht]; decide +kernel), (by simp), (by decide), (by intro t ht r hr; rw [List.mem_singleton.mp ht] at hr; cases hr), (by intro t ht r hr; rw [List.mem_singleton.mp ht] at hr; cases hr)⟩⟩
theorem keys_kv {K : PySem.W.Frag} {H : Hp} : ∀ {kvs : List (Key × V)} {ts : List Tb}, KvAt K H kvs ts → kvs.map (·.1) = (ts.map (·.n)).map Sum.inr
  | [], _, h => by cases h; rfl
  | p :: kvs, _, h => by
    cases h with
    | cons h1 h2 =>
      rw [List.map_cons, List.map_cons, List.map_cons, keys_kv h2, h1.1]
section
variable {P : Program} {w : World} {K : PySem.W.Frag} {mg : Str → Option Value} {base : Heap}
def spWith (K : PySem.W.Frag) (C : Addr) (TT : List (Addr × Str)) : Sp := fun vs H Q _ => ∃ (s t : Addr) (d m : Int) (ts us : List Tb) (kvs : List (Key × V)), vs = [.ref s, .ref t] ∧ SysAt K C H s d m ts ∧ 1 ≤ d ∧ d ≤ 3 ∧ 2 ≤ m ∧ H t = some (.dK kvs) ∧ KvAt K H kvs us ∧ (us.map (·.n)).Nodup ∧ us.length ≤ 60 ∧ LamX.Tabs TT H ∧
  ∀ x H', H x = none → LamX.ExtN H H' → LamX.Tabs TT H' → SysAt K C H' x d m (srt us) → Q (.ref x) H'
theorem ok_with {f C : Addr} {fd : FuncData} {TT : List (Addr × Str)} (F : Fun K "_with_tables" "System._with_tables" s_Systemwith_tables f fd) (T : Txt mg) (TC : TxtC K mg C) (m_System3 : C8.Mak P w K mg base 5 "System" C (spInit K C TT) []) : FnOk P w K mg base CX0 7 f fd ["self", "tables"] (spWith K C TT) := by
  refine F.ok sc_Systemwith_tables (fun vs H Q E h => ?_) (fun cdv A outer sh H vs Q E hr h => ?_)
  · obtain ⟨s, t, d, m, ts, us, kvs, rfl, _⟩ := h
    rfl
  · obtain ⟨s, t, d, m, ts, us, kvs, rfl, S, hd1, hd3, hm2, ht, hkv, hnd, hlen, hT, q⟩ := h
    have hu := hu_of hr
    refine ⟨_, (pss_cons (ps_set (i := 2) sc_Systemwith_tables.nd rfl (by first | exact Or.inl rfl | exact Or.inr rfl) (C8.pe_mk m_System3 hr (by decide) (by rfl) (pa_cons (pe_fld (pv 0) rfl) (pa_cons (pe_lst (pa_cons (pe_tup (pa_cons pe_str (pa_cons pe_int (pa_cons (pe_lst pa_nil) pa_nil)))) pa_nil)) (pa_cons (pe_fld (pv 0) rfl) pa_nil)))))
  (pss_cons (ps_fld (pv 2) (pe_dc (own := [("name", 3)]) (g := gName 3) (tt := tYes) (by rfl) sc_Systemwith_tables.nd (pi_list (pe_callB (call_sortedD rfl) (by rfl) T.b_sorted (by decide +kernel) (pa_cons (pv 1) pa_nil))) (blkOk_by (N := ["self", "tables", "made", "name"]) (sc := defScope s_Systemwith_tables) (by decide +kernel)) (fun _ _ _ _ _ => (pg_name (i := 3) sc_Systemwith_tables.nd rfl (by first | exact Or.inl rfl | exact Or.inr rfl))) (fun _ _ _ _ _ => pts_nil) (fun _ _ _ _ _ => (pv 3)) (fun _ _ _ _ _ => (pe_dget hu (pv 1) (pv 3) (fun _ _ => rfl)))) rfl)
  (pss_one (ps_ret (pv 2))))), ?_⟩
    obtain ⟨dx, tt, kvs0, h1, h2, h3⟩ := S.ob
    -- made = System(..)
    refine ⟨_, rfl, s, C, dx, _, _, rfl, h1, TC.cl, TC.nD, flds_d _ _ _, Nat.zero_le _, fun l0 hl0 => ⟨(by show 3 ≤ sizeLine; decide), fun t0 ht0 => ⟨(by show 1 ≤ sizeLine; decide), fun l1 hl1 => ?_⟩⟩⟩
    have s1 : Same H (upd (upd (upd H l0 (.lst [])) t0 (.tup [.str "a", .int 0, .ref l0])) l1 (.lst [.ref t0])) := same_tr (snew hl0) (same_tr (snew ht0) (snew hl1))
    have D1 : Dp K (upd (upd (upd H l0 (.lst [])) t0 (.tup [.str "a", .int 0, .ref l0])) l1 (.lst [.ref t0])) (.ref l1) (.list ([bare].map Tb.d)) := by
      refine .lst (Or.inl (Or.inl upd_same)) (.cons (.tup (Or.inl (Or.inl (snew hl1 _ _ upd_same))) (.cons (.str _) (.cons (.int _) (.cons (.lst (Or.inl (Or.inl (snew hl1 _ _ (snew ht0 _ _ upd_same)))) .nil) .nil)))) .nil)
    generalize upd (upd (upd H l0 (.lst [])) t0 (.tup [.str "a", .int 0, .ref l0])) l1 (.lst [.ref t0]) = H1 at s1 D1
    refine ⟨_, rfl, s, C, dx, _, _, rfl, s1 _ _ h1, TC.cl, TC.nM, flds_m _ _ _, fun x dx2 nx ndx nex => ?_⟩
    have sx : Same H1 (upd (upd H1 dx2 (.own x)) x (.ins C dx2 [])) := same_tr (snew ndx) (snew (by rw [upd_ne nex.symm]; exact nx))
    refine ⟨x, dx2, d, m, .ref l1, [bare], rfl, upd_same, (hT.ext s1).ext sx, bare_ok hd1 hd3 hm2, dpm sx _ _ D1, fun H2 E2 hT2 S2 => ⟨rfl, ?_⟩⟩
    have xH : H x = none := free_of s1 nx
    have e2 : LamX.ExtN H H2 := fun b o e n => E2 b o (sx b o (s1 b o e)) (ne_of_none (s1 b o e) nx) n
    obtain ⟨dx3, t3, kvs3, o1, o2, o3⟩ := S2.ob
    have ht2 := e2 _ _ ht (fun ps z => by cases z)
    have hk2 := hkv.ext e2
    -- sorted(tables)
    refine ⟨_, rfl, t, kvs, us.map (·.n), rfl, Or.inl ht2, keys_kv hk2, by rw [List.length_map]; omega, fun ys p perm so hp => ?_⟩
    have ey := sorted_names perm so
    have sl : (srt us).length = us.length := List.length_mergeSort _
    have nds : ((srt us).map (·.n)).Nodup := ((srt_perm us).map (·.n)).nodup_iff.mpr hnd
    have s3 : Same H2 (upd H2 p (.lst (ys.map V.str))) := snew hp
    have hyl : (ys.map V.str).length = us.length := by rw [List.length_map, ey, List.length_map, sl]
    refine ⟨p, rfl, ⟨_, Or.inl (Or.inl upd_same)⟩, fun D hD => dc_it (walk_list (K := K) (a := p) (xs := ys.map V.str)) (fun i H' => ∃ kvs', Same (upd H2 p (.lst (ys.map V.str))) (upd H' D (.dK kvs')) ∧ H' D = some (.dK kvs') ∧ KvAt K H2 kvs' ((srt us).take i) ∧ ∀ b, b ≠ D → (upd H2 p (.lst (ys.map V.str))) b = H' b)
      ⟨[], fun b o e => by rw [upd_ne (ne_of_none e hD), upd_ne (ne_of_none e hD)]; exact e, upd_same, .nil, fun b hb => (upd_ne hb).symm⟩ (fun i H' _ ⟨kvs', b1, b2, _, b4⟩ => Or.inl (Or.inl (by rw [← b4 p fun z => by rw [← z, upd_same] at hD; cases hD]; exact upd_same))) ?_ ?_⟩
    · rintro i y _ Hi hi ⟨kvs', b1, b2, b3, b4⟩ ⟨rfl, hy⟩
      rw [List.getElem?_map, ey, List.getElem?_map] at hy
      obtain ⟨z, hz, rfl⟩ := Option.map_eq_some_iff.mp hy
      obtain ⟨u, hu1, rfl⟩ := Option.map_eq_some_iff.mp hz
      have humem : u ∈ us := (srt_perm us).mem_iff.mp (List.mem_of_getElem? hu1)
      have hf := find_nodup' hnd humem
      obtain ⟨v, e1, e3⟩ := hk2.get hf
      have tD : t ≠ D := ne_of_none (s3 _ _ ht2) hD
      have htI : Hi t = some (.dK kvs) := by rw [← b4 t tD]; exact s3 _ _ ht2
      refine ⟨rfl, yes_if ?_⟩
      refine ⟨_, rfl, _, rfl, _, rfl, t, v, rfl, ?_, kvs', Sum.inr u.n, rfl, b2, ?_, ?_⟩
      · have g := DGet.k (k := Sum.inr u.n) htI
        rw [e1] at g
        exact g
      · have : kvs'.length ≤ 60 := by
          rw [b3.len, List.length_take]
          omega
        exact Nat.lt_of_le_of_lt this (by rw [sizeLine_eq]; decide)
      · have hno : valV kvs' (Sum.inr u.n) = none := b3.noVal (by
          rw [List.map_take]
          exact notin_take nds (by rw [List.getElem?_map, hu1]; rfl))
        rw [putK_new _ hno]
        refine ⟨kvs' ++ [(Sum.inr u.n, v)], fun b o e => ?_, upd_same, ?_, fun b hb => by rw [upd_ne hb]; exact b4 b hb⟩
        · have hb : b ≠ D := ne_of_none e hD
          rw [upd_ne hb, upd_ne hb, ← b4 b hb]
          exact e
        · rw [List.take_add_one, hu1]
          exact b3.app (.cons ⟨rfl, e3⟩ .nil)
    · rintro Hf ⟨kvs', b1, b2, b3, b4⟩
      rw [hyl, ← sl, List.take_length] at b3
      have xD : x ≠ D := ne_of_none (s3 _ _ o1) hD
      have hxf : Hf x = some (.ins C dx3 (flds d m t3)) := by rw [← b4 x xD]; exact s3 _ _ o1
      refine ⟨_, rfl, x, C, dx3, _, rfl, hxf, TC.cl, TC.nT, (by show 3 < 1000; decide), _, rfl, ?_⟩
      rw [putF_flds]
      have sf : Same H2 Hf := fun b o e => by
        have hb : b ≠ D := ne_of_none (s3 _ _ e) hD
        rw [← b4 b hb]
        exact s3 _ _ e
      refine q x _ xH (fun b o e n => ?_) (tabs_ins (hT2.ext sf) hxf) ⟨dx3, D, kvs', upd_same, by rw [upd_ne xD.symm]; exact b2, b3.monoD (SD.upd (.of sf) hxf rfl)⟩
      rw [upd_ne (ne_of_none e xH)]
      exact sf _ _ (e2 _ _ e n)
end
end Fr

namespace Fr
open PySem PySem.Spec PyProof.Rows L2
/-- a system of the laws -/
structure Sys1 (d m : Int) (ts : List Tb) : Prop where
  d1 : 1 ≤ d
  d3 : d ≤ 3
  m2 : 2 ≤ m
  mx : m ≤ 1000000000
  l1 : 1 ≤ ts.length
  l6 : ts.length ≤ 6
  ok : OkT d ts
  sm : ∀ t ∈ ts, SmT t
theorem Sys1.sys {d m : Int} {ts : List Tb} (h : Sys1 d m ts) : OkSys d m ts := ⟨h.d1, h.d3, h.m2, h.l1, h.l6, h.ok⟩
theorem OkT.perm {d : Int} {ts us : List Tb} (p : ts.Perm us) (O : OkT d ts) : OkT d us := by
  refine ⟨fun t ht => O.names t (p.mem_iff.mpr ht), (p.map (·.n)).nodup_iff.mp O.nodup, ?_, fun t ht => O.reads t (p.mem_iff.mpr ht), fun t ht r hr => (p.map (·.n)).mem_iff.mp (O.here t (p.mem_iff.mpr ht) r hr)⟩
  rw [← (p.map fun t => t.rs.length).sum_nat]
  exact O.few
theorem Sys1.srt {d m : Int} {ts : List Tb} (h : Sys1 d m ts) : Sys1 d m (srt ts) := by
  have p := (srt_perm ts).symm
  have e := p.length_eq
  exact ⟨h.d1, h.d3, h.m2, h.mx, by have := h.l1; omega, by have := h.l6; omega, h.ok.perm p, fun t ht => h.sm t (p.mem_iff.mpr ht)⟩
def sysD (d m : Int) (ts : List Tb) : PyData := .list [.int d, .int m, .list (ts.map Tb.d), .list ((named ts).map nrD), .int (ts.length : Nat)]
def sysS (d m : Int) (ts : List Tb) : Str := (sysD d m ts).shown
theorem shw_rd {d : Int} {r : Rd1} (h : isRead d r = true) (hd : d ≤ 3) (f : -10 ≤ r.f ∧ r.f ≤ 10) (v : ∀ x ∈ r.v, -1000 ≤ x ∧ x ≤ 1000) : Shw r.d 3 174 := by
  unfold isRead at h
  rw [Bool.and_eq_true, Bool.and_eq_true] at h
  have hl : r.v.length ≤ 3 := by
    have := of_decide_eq_true h.2.1
    omega
  have hv : ShwA (r.v.map .int) 1 123 := (ShwA.map fun x hx => Shw.one (by have := v x hx; omega)).mono (Nat.le_refl _) (by omega)
  exact (Shw.tup (ShwA.c (Shw.str (k := 2) (name_ok h.1).1 (name_ok h.1).2) (ShwA.c (Shw.tup hv) (ShwA.c (Shw.one (k := 2) (i := r.f) (by omega)) ShwA.nil)))).mono (j := 3) (by decide) (by decide)
theorem shw_tb {d m : Int} {ts : List Tb} (h : Sys1 d m ts) {t : Tb} (ht : t ∈ ts) : Shw t.d 5 2200 := by
  have h12 := few_reads h.ok ht
  have hr : ShwA (t.rs.map Rd1.d) 3 2100 := (ShwA.map fun r hr => shw_rd (h.ok.reads t ht r hr) h.d3 ((h.sm t ht).f r hr) ((h.sm t ht).v r hr)).mono (Nat.le_refl _) (by omega)
  have hn := name_ok (h.ok.names t ht)
  have hc := (h.sm t ht).c
  exact (Shw.tup (ShwA.c (Shw.str (k := 4) hn.1 hn.2) (ShwA.c (Shw.one (i := t.c) (by omega)) (ShwA.c (Shw.list hr) ShwA.nil)))).mono (by decide) (by decide)
theorem shw_nr {x : Str × Nat} (h : isName x.1 = true) (hi : x.2 ≤ 1000) : Shw (nrD x) 1 50 := by
  have hn := name_ok h
  exact (Shw.tup (ShwA.c (Shw.str (k := 0) hn.1 hn.2) (ShwA.c (Shw.one (i := (x.2 : Nat)) (by omega)) ShwA.nil))).mono (by decide) (by decide)
theorem shw_named {d m : Int} {ts : List Tb} (h : Sys1 d m ts) {x : Str × Nat} (hx : x ∈ named ts) : Shw (nrD x) 1 50 := by
  obtain ⟨t, ht, e, hi⟩ := mem_named.mp (show (x.1, x.2) ∈ named ts from hx)
  have h12 := few_reads h.ok ht
  exact shw_nr (by rw [← e]; exact h.ok.names t ht) (by omega)
theorem sysD_ok {d m : Int} {ts : List Tb} (h : Sys1 d m ts) : Shw (sysD d m ts) 7 30000 := by
  have hts : ShwA (ts.map Tb.d) 5 13206 := (ShwA.map fun t ht => shw_tb h ht).mono (Nat.le_refl _) (by have := h.l6; omega)
  have hnl : (named ts).length ≤ 12 := by rw [named_len]; exact h.ok.few
  have hnm : ShwA ((named ts).map nrD) 5 700 := (ShwA.map (w := 50) fun x hx => shw_named h hx).mono (by decide) (by omega)
  have h1 := h.d1
  have h3 := h.d3
  have h2 := h.m2
  have hx := h.mx
  have h6 := h.l6
  exact (Shw.list (ShwA.c (Shw.one (k := 6) (i := d) (by omega)) (ShwA.c (Shw.one (i := m) (by omega)) (ShwA.c (Shw.list hts) (ShwA.c (Shw.list hnm) (ShwA.c (Shw.one (i := (ts.length : Nat)) (by omega)) ShwA.nil)))))).mono (by decide) (by decide)
end Fr

namespace Srt2
open PySem PyProof.Rows Srt SrtO
def lexT (p q : Str × Int) : Bool := if p.1 = q.1 then decide (p.2 < q.2) else decide (p.1.cps.toList < q.1.cps.toList)
theorem lex_ne {a b : Str} (h : ¬ a.cps.toList < b.cps.toList) (n : a ≠ b) : b.cps.toList < a.cps.toList := by
  apply Classical.byContradiction
  intro z
  exact n (Fr.str_antisymm (List.not_lt.mp z) (List.not_lt.mp h))
theorem lexT_no {p q : Str × Int} : lexT p q = false ↔ q.1.cps.toList < p.1.cps.toList ∨ (q.1 = p.1 ∧ q.2 ≤ p.2) := by
  unfold lexT
  by_cases e : p.1 = q.1
  · rw [if_pos e, decide_eq_false_iff_not]
    constructor
    · intro h
      exact .inr ⟨e.symm, by omega⟩
    · rintro (h | h)
      · rw [e] at h
        exact absurd h (List.lt_irrefl _)
      · omega
  · rw [if_neg e, decide_eq_false_iff_not]
    constructor
    · intro h
      exact .inl (lex_ne h e)
    · rintro (h | h)
      · exact List.not_lt.mpr (List.le_of_lt h)
      · exact absurd h.1.symm e
theorem swo_lexT {α : Type} (k : α → Str × Int) : Swo fun v u => lexT (k v) (k u) := by
  refine ⟨fun x y hxy => ?_, fun x y z hyx hzy => ?_⟩
  · refine lexT_no.mpr ?_
    have hxy : lexT (k x) (k y) = true := hxy
    unfold lexT at hxy
    by_cases e : (k x).1 = (k y).1
    · rw [if_pos e, decide_eq_true_eq] at hxy
      exact .inr ⟨e, by omega⟩
    · rw [if_neg e, decide_eq_true_eq] at hxy
      exact .inl hxy
  · have h1 := lexT_no.mp hyx
    have h2 := lexT_no.mp hzy
    refine lexT_no.mpr ?_
    rcases h1 with h1 | ⟨h1, h3⟩ <;> rcases h2 with h2 | ⟨h2, h4⟩
    · exact .inl (List.lt_trans h1 h2)
    · exact .inl (by rw [← h2]; exact h1)
    · exact .inl (by rw [h1]; exact h2)
    · exact .inr ⟨h1.trans h2, by omega⟩
section
variable {prog : Program} {w : World} {A : Around} {s : Shared} {E : Value → Shared → Prop}
def IsT2 (h : Heap) (v : Value) (p : Str × Int) : Prop := ∃ a o t u n, v = .ref a ∧ h.get? a = some o ∧ o.cls = .type "tuple" ∧ o.data = .seq #[.str p.1 t, .int p.2 u] n
theorem IsT2.keeps {h h' : Heap} {v : Value} {x : Str × Int} (p : IsT2 h v x) (k : ∀ b o, h.get? b = some o → o.cls = .type "tuple" → h'.get? b = some o) : IsT2 h' v x := by
  obtain ⟨a, o, t, u, n, e, g1, g2, g3⟩ := p
  exact ⟨a, o, t, u, n, e, k _ _ g1 g2, g2, g3⟩
theorem t2_cmp {vs : List Value} {k : Value → Str × Int} (hk : ∀ v ∈ vs, IsT2 s.heap v (k v)) : Cmp prog w A s (tuples' true) (fun p => p.1 ∈ vs) (lt2 fun v u => lexT (k v) (k u)) := by
  intro p q mp mq
  have ip := hk _ mp
  have iq := hk _ mq
  show wpAny (model prog w) A (keyLt' (tuples' true) p.1 q.1) (fun r s' => s' = s ∧ r = lexT (k p.1) (k q.1)) (fun _ _ => False) s
  unfold lexT
  generalize k p.1 = kp at ip ⊢
  generalize k q.1 = kq at iq ⊢
  obtain ⟨x, y⟩ := kp
  obtain ⟨x', y'⟩ := kq
  obtain ⟨a, o, t, u, n, ea, g1, g2, g3⟩ := ip
  obtain ⟨a', o', t', u', n', ea', g1', g2', g3'⟩ := iq
  rw [ea, ea']
  refine PySem.W.kat_lt g1 g3 g1' g3' ?_
  show PySem.W.KatLex prog w A true (decide (2 < 2)) _ [(.str x t, .str x' t'), (.int y u, .int y' u')] 0 s
  refine PySem.W.kat_cons (SeqAt.EqAt.str_str x t x' t' prog w _ _ ?_)
  refine PySem.W.kat_go (fun sa => ?_) (fun sa => ?_)
  · have ex : x = x' := by simpa using sa
    refine PySem.W.kat_yes (PySem.W.kat_cons (SeqAt.EqAt.int_int y u y' u' prog w _ _ ?_))
    refine PySem.W.kat_go (fun sb => ?_) (fun sb => ?_)
    · have ey : y = y' := by simpa using sb
      refine PySem.W.kat_yes (PySem.W.kat_nil ⟨rfl, ?_⟩)
      show false = (if x = x' then decide (y < y') else decide (x.cps.toList < x'.cps.toList))
      rw [if_pos ex, ey]
      exact (decide_eq_false (Int.lt_irrefl _)).symm
    · refine PySem.W.kat_no (PySem.W.kat_one _ _ (PyProof.Rows.lt_int ⟨rfl, ?_⟩))
      exact (if_pos ex).symm
  · have ex : ¬ x = x' := by simpa using sa
    exact PySem.W.kat_no (oneLt_str ⟨rfl, (if_neg ex).symm⟩)
theorem firsts2 {h : Heap} : ∀ {vs : List Value}, (∀ v ∈ vs, ∃ x, IsT2 h v x) → ∃ fs : List Value, PySem.W.KatTups h vs fs ∧ fs.length = vs.length ∧ ∀ f ∈ fs, ∃ x t, f = Value.str x t
  | [], _ => ⟨[], PySem.W.KatTups.nil, rfl, fun _ hm => by simp at hm⟩
  | v :: vs, hp => by
    obtain ⟨fs, f1, f2, f3⟩ := firsts2 (vs := vs) fun v' hm => hp v' (List.mem_cons_of_mem _ hm)
    obtain ⟨x, a, o, t, u, n, ea, g1, g2, g3⟩ := hp v (List.mem_cons_self ..)
    subst ea
    refine ⟨.str x.1 t :: fs, PySem.W.KatTups.cons g1 g2 g3 rfl f1, by rw [List.length_cons, List.length_cons, f2], fun f hm => ?_⟩
    rcases List.mem_cons.mp hm with rfl | hm
    · exact ⟨x.1, t, rfl⟩
    · exact f3 f hm
theorem t2_sortable {a : Addr} {vs : List Value} {k : Value → Str × Int} (many : 0 < vs.length) (hk : ∀ v ∈ vs, IsT2 s.heap v (k v)) (na : ∀ o, s.heap.get? a = some o → o.cls ≠ .type "tuple") : SortableO prog w A s a vs fun v u => lexT (k v) (k u) := by
  intro h' keep
  have hk' : ∀ v ∈ vs, IsT2 h' v (k v) := fun v hm => (hk v hm).keeps fun b o ho c => keep b o (fun z => by subst z; exact na o ho c) ho
  obtain ⟨fs, f1, f2, f3⟩ := firsts2 fun v hm => ⟨_, hk' v hm⟩
  refine ⟨tuples' true, fun Q E hq => ?_, t2_cmp hk'⟩
  refine PySem.W.kat_kind (T := .type "str") f1 (by omega) (fun f hm => ?_) (by rfl) ?_
  · obtain ⟨x, t, rfl⟩ := f3 f hm
    exact PySem.W.Looks.now
  · rw [show (Value.type "str" != Value.type "tuple") = true by first | decide +kernel | rfl | decide]
    exact hq
theorem sorted_t2 {l : Addr} {vs : List Value} {k : Value → Str × Int} {Q : Value → Shared → Prop} (hl : s.heap.IsList l vs.toArray) (short : vs.length ≤ sizeLine) (hk : ∀ v ∈ vs, IsT2 s.heap v (k v))
    (h : ∀ (h' : Heap) (d : Addr) (out : List Value), Srtd (fun v u => lexT (k v) (k u)) out → Stb (fun v u => lexT (k v) (k u)) out vs → (∀ b o, s.heap.get? b = some o → h'.get? b = some o) → s.heap.objs.size ≤ d → (∃ n, h'.get? d = some (seqObj "list" out.toArray n)) → Q (.ref d) { s with heap := h' }) :
    wpAny (model prog w) A (call (.builtin "sorted") [.ref l]) Q E s := by
  refine sorted_ord (swo_lexT k) hl short (fun m2 h₁ a ha stays => ?_) fun out so st => ?_
  · refine t2_sortable (s := { s with heap := h₁ }) (by omega) (fun v hm => (hk v hm).keeps fun b o ho _ => (stays b o ho).2) fun o ho => ?_
    have eo : some o = some (seqObj "list" vs.toArray 0) := ho.symm.trans ha
    cases eo
    intro c
    exact absurd (Value.type.inj c) (by decide)
  · exact h _ _ out so st (fun b o ho => sortedAll_old ho) (Nat.le_succ _) (sortedAll_at s.heap vs out.toArray)
end
end Srt2
namespace Fr
open PySem PySem.Spec PyProof.Rows L2
/-- sorted(xs), tuples (text, int): by the text, then by the int -/
def rSorted2 (K : PySem.W.Frag) : List V → Hp → VK → Prop := fun vs H Q => ∃ (a : Addr) (xs : List V) (k : V → Str × Int), vs = [V.ref a] ∧ SqL K H a xs ∧ (∀ x ∈ xs, ∃ t, x = V.ref t ∧ SqT K H t [.str (k x).1, .int (k x).2]) ∧
  ∀ ys p, SrtO.Srtd (fun x y => Srt2.lexT (k x) (k y)) ys → ys.Perm xs → H p = none → Q (.ref p) (upd H p (.lst ys))
section
variable {X : Cx}
theorem cr_sorted2 : CallR X (.builtin "sorted") (rSorted2 X.K) := by
  intro pins s σ H vs us Q I r h
  obtain ⟨a, xs, k, rfl, hs, hx, q⟩ := h
  obtain ⟨its, rv, hl, hz⟩ := I.list hs
  obtain ⟨u, rfl, ru⟩ := vals1 r
  obtain rfl : u = Value.ref a := ru
  obtain ⟨e1, e2⟩ := refs_back rv fun x m => by
    obtain ⟨t, et, _⟩ := hx x m
    exact ⟨t, et⟩
  refine Srt2.sorted_t2 (k := fun u => k (backV u)) hl.isList (by rw [← rv.length]; exact hz) (fun v hv => ?_) fun h' d out so st kp hd hn => ?_
  · obtain ⟨t, rfl⟩ := e2 v hv
    have hm : V.ref t ∈ xs := by rw [e1]; exact List.mem_map.mpr ⟨_, hv, rfl⟩
    obtain ⟨t', et, ht⟩ := hx _ hm
    cases et
    obtain ⟨its2, r2, ⟨o, ho, hc, n, hd⟩, _⟩ := I.tuple ht
    obtain ⟨u1, u2, rfl, ri, rj⟩ := vals2 r2
    obtain ⟨t1, rfl⟩ := ri
    obtain ⟨t2, rfl⟩ := rj
    exact ⟨t, o, t1, t2, n, rfl, ho, hc, hd⟩
  · have h3 : ∀ u ∈ out, ∃ a, u = Value.ref a := fun u hu => e2 u (st.perm.mem_iff.mp hu)
    obtain ⟨n, hn⟩ := hn
    have hp : (out.map backV).Perm xs := by
      rw [e1]
      exact st.perm.map backV
    refine ⟨.ref d, upd H d (.lst (out.map backV)), I.laid (t' := s.toks) kp hd ⟨?_, out, n, vals_back h3, hn⟩, rfl, q _ d (SrtO.srtd_map so) hp (I.hok.fresh hd)⟩
    rw [hp.length_eq]
    exact hz
end
/-- the named reads of sorted tables ascend -/
theorem named_srtd (ts : List Tb) (nd : (ts.map (·.n)).Nodup) : SrtO.Srtd Srt2.lexT ((named (srt ts)).map fun x => (x.1, (x.2 : Int))) := by
  have pw := srt_pw ts
  have nd2 : ((srt ts).map (·.n)).Nodup := ((srt_perm ts).map (·.n)).nodup_iff.mpr nd
  generalize srt ts = us at pw nd2
  unfold SrtO.Srtd
  rw [List.pairwise_map]
  unfold named
  induction us with
  | nil => exact .nil
  | cons t us ih =>
    rw [List.map_cons, List.pairwise_cons] at pw
    rw [List.map_cons, List.nodup_cons] at nd2
    rw [List.flatMap_cons, List.pairwise_append]
    refine ⟨?_, ih pw.2 nd2.2, fun a ha b hb => ?_⟩
    · unfold nam1
      rw [List.pairwise_map]
      refine List.pairwise_lt_range.imp fun h => ?_
      exact Srt2.lexT_no.mpr (.inr ⟨rfl, by show ((_ : Nat) : Int) ≤ ((_ : Nat) : Int); omega⟩)
    · unfold nam1 at ha
      obtain ⟨i, _, rfl⟩ := List.mem_map.mp ha
      obtain ⟨u, hu, hb⟩ := List.mem_flatMap.mp hb
      unfold nam1 at hb
      obtain ⟨j, _, rfl⟩ := List.mem_map.mp hb
      have hm : u.n ∈ us.map (·.n) := List.mem_map.mpr ⟨u, hu, rfl⟩
      refine Srt2.lexT_no.mpr (.inl ?_)
      refine Srt2.lex_ne (List.not_lt.mpr (pw.1 _ hm)) fun z => nd2.1 ?_
      have z : u.n = t.n := z
      rw [← z]
      exact hm
end Fr

namespace Fr
open PySem PySem.Spec PyProof.Rows L2
theorem vals_at : ∀ {xs : List V} {us : List Value}, xs.length = us.length → (∀ (j : Nat) (v : Value), us[j]? = some v → ∃ x, xs[j]? = some x ∧ RelV x v) → Vals xs us
  | [], [], _, _ => .nil
  | [], _ :: _, h, _ => by cases h
  | _ :: _, [], h, _ => by cases h
  | x :: xs, u :: us, h, g => by
    obtain ⟨y, e1, e2⟩ := g 0 u rfl
    cases e1
    refine .cons e2 (vals_at (by simpa using h) fun j v e => ?_)
    exact g (j + 1) v (by simpa using e)
/-- an expression, up to what holds behind it -/
def tCsqE (t : TE) : TE := fun σ H Q => ∃ N : V → Hp → Prop, (∀ v H, N v H → Q v H) ∧ t σ H N
theorem pe_csqE {X : Cx} {e : Expr} {t : TE} (h : PE X e t) : PE X e (tCsqE t) := ⟨fun pins s σ H Q I ⟨N, hN, q⟩ => thn (h.run pins s σ H _ I q) fun v s1 ⟨x, H1, I1, r, n⟩ => ⟨x, H1, I1, r, hN _ _ n⟩⟩
section
variable {X : Cx}
/-- isinstance of a thing of a known type -/
theorem call_isT : CallR X (.builtin "isinstance") (fun xs H Q => ∃ (x : V) (t : Value) (c : Addr) (b : Bool), xs = [x, .ref c] ∧ TyOf X.K H x t ∧ PySem.W.kitOne X.K t (.ref c) = some b ∧ Q (.bl b) H) := by
  intro pins s σ H xs us Q I r h
  obtain ⟨x, t, c, b, rfl, ty, e, q⟩ := h
  obtain ⟨u, v, rfl, ru, rv⟩ := vals2 r
  obtain rfl : v = Value.ref c := rv
  exact isinst_ok I ru ty e fun tk => ⟨.bl b, H, I.tok _, rfl, q⟩
/-- what == may stand beside -/
inductive Beside (H : Hp) : V → String → Prop
  | int (i : Int) : Beside H (.int i) "int"
  | str (x : Str) : Beside H (.str x) "str"
  | lst {a : Addr} {xs : List V} (e : H a = some (.lst xs)) : Beside H (.ref a) "list"
theorem Beside.ty {K : PySem.W.Frag} {H : Hp} {y : V} {t : String} (h : Beside H y t) : TyOf K H y (.type t) := by
  cases h with
  | int i => exact .int i
  | str x => exact .str x
  | lst e => exact .lst e
def rEqOut (K : PySem.W.Frag) (C : Addr) (sp : Sp) : R2 := fun x y H Q => ∃ (a dx : Addr) (fs : List (Str × V)) (t : String), x = .ref a ∧ H a = some (.ins C dx fs) ∧ Beside H y t ∧ PySem.W.notFirst K C (.type t) = true ∧ sp [.ref a, y] H (fun v H' => ∃ r, v = .bl r ∧ Q (.bl r) H') C8.E0
theorem op_eqOut {k j : Nat} {C : Addr} {sp : Sp} (c : EqM X.prog X.w X.K X.mg X.base k C sp) (hr : Room j X.A) (hk : k ≤ j) : OpR X (compareOp .Eq) (rEqOut X.K C sp) := by
  intro pins s σ H x y v u Q I rx ry h
  obtain ⟨a, dx, fs, t, rfl, ha, hb, nf, h⟩ := h
  cases (show v = Value.ref a from rx)
  obtain ⟨f, fd, ps, hc, hs, hf, F, hbd⟩ := c.ex
  obtain ⟨mA, J, _⟩ := ins_get I.hok ha
  obtain ⟨od, J, _⟩ := J.look
  obtain ⟨m, hF⟩ := I.fr
  have hu : X.A.units < cLine := (hr.mono hk).units0
  have lk : PySem.W.Looks (model X.prog X.w) s.heap (typeOf u) (.type t) := by
    cases hb with
    | int i => obtain ⟨tk, rfl⟩ := (show ∃ tk, u = Value.int i tk from ry); exact PySem.W.Looks.now
    | str z => obtain ⟨tk, rfl⟩ := (show ∃ tk, u = Value.str z tk from ry); exact PySem.W.Looks.now
    | @lst b xs e =>
      obtain rfl : u = Value.ref b := ry
      obtain ⟨_, _, n, _, h1⟩ := (show ObjOk X.prog X.w H s.heap b (.lst xs) from I.hok b _ e)
      exact PySem.W.kitAt_ty _ _ ⟨_, h1, rfl⟩
  refine PySem.W.cmp_K (op := .Eq) (tb := .type t) hu hF I.ok.mod.kin J lk nf hs hf ?_
  refine wpAny_mono (run_fn (us := [.ref a, u]) (vs := [.ref a, y]) F (hr.mono hk) hbd .nil pass0 I (.cons rfl (.cons ry .nil)) h) (fun r s' q => ?_) fun _ _ x => x
  obtain ⟨z, H', I', rz, t, rfl, q⟩ := q
  obtain rfl : r = Value.bool t := rz
  exact ⟨.bl t, H', I', rfl, q⟩
/-- list(text) -/
theorem call_listS (hcalm : X.calm = true) : CallR X (.type "list") (fun xs H Q => ∃ x : Str, xs = [.str x] ∧ x.length ≤ 1000 ∧ ∀ p, H p = none → Q (.ref p) (upd H p (.lst ((signs x).map V.str)))) := by
  intro pins s σ H xs us Q I r h
  obtain ⟨x, rfl, hl, q⟩ := h
  obtain ⟨u, rfl, t, rfl⟩ := vals1 r
  have hsz : x.cps.size ≤ sizeLine := Nat.le_trans hl (by decide)
  refine call_list_str (I.ok.hd hcalm) x t (hn := hsz) fun h' tk acc c' hk hS ha => ?_
  have hlen : (signs x).length = acc.toList.length := by
    rw [show (signs x).length = x.cps.size by simp [signs]]
    exact ha.1.symm
  have rv : Vals ((signs x).map V.str) acc.toList := by
    refine vals_at (by rw [List.length_map]; exact hlen) fun j v hv => ?_
    obtain ⟨c, u, hc, rfl⟩ := ha.2 j v (by simpa using hv)
    exact ⟨V.str ⟨#[c]⟩, by simp [signs, hc], u, rfl⟩
  exact ⟨.ref s.heap.objs.size, _, I.laid (t' := tk) hk (Nat.le_refl _) (show ObjOk X.prog X.w _ h' _ (.lst ((signs x).map V.str)) from ⟨by rw [List.length_map]; simp [signs]; exact hsz, acc.toList, c', rv, by simpa using hS⟩), rfl, q _ (I.hok.fresh (Nat.le_refl _))⟩
/-- dict(zip(a, b)) of lists, the first one's items keys -/
def tDctZip (K : PySem.W.Frag) (ta : TA) : TE := fun σ H Q => ta σ H fun vs H1 => ∃ (a b : Addr) (ks : List Key) (ys : List V), vs = [.ref a, .ref b] ∧ SqL K H1 a (ks.map kV) ∧ SqL K H1 b ys ∧ ∀ S, H1 S = none → Q (.ref S) (upd H1 S (.dK (mergeK [] (ks.zip ys))))
theorem zip_kv {P : Program} {w : World} : ∀ {ks : List Key} {ys : List V} {us vs : List Value}, Vals (ks.map kV) us → Vals ys vs → ∃ prs : List (Key × Value), KV (ks.zip ys) prs ∧ prs.length = min us.length vs.length ∧ ∀ (i : Nat) (key v : Value), us[i]? = some key ∧ vs[i]? = some v → ∃ k, prs[i]? = some (k, v) ∧ (mixKind P w).is k key = true
  | [], ys, us, vs, h1, h2 => by
    cases h1
    exact ⟨[], .nil, by simp, fun i key v e => by cases e.1⟩
  | k :: ks, [], us, vs, h1, h2 => by
    cases h2
    exact ⟨[], .nil, by simp, fun i key v e => by cases e.2⟩
  | k :: ks, y :: ys, _, _, h1, h2 => by
    cases h1 with
    | @cons _ u _ us g1 g2 =>
      cases h2 with
      | @cons _ v _ vs g3 g4 =>
        obtain ⟨prs, r, l, f⟩ := zip_kv (P := P) (w := w) g2 g4
        refine ⟨(k, v) :: prs, .cons ⟨rfl, g3⟩ r, by rw [List.length_cons, List.length_cons, List.length_cons, l]; omega, fun i key z e => ?_⟩
        cases i with
        | zero =>
          obtain ⟨e1, e2⟩ := e
          cases e1
          cases e2
          exact ⟨k, rfl, kV_is (P := P) (w := w) g1⟩
        | succ i =>
          obtain ⟨k', e1, e2⟩ := f i key z ⟨by simpa using e.1, by simpa using e.2⟩
          exact ⟨k', by simpa using e1, e2⟩
theorem pe_dictZip {e e2 : Expr} {ta : TA} {p p2 pos pos2 : Pos} (hc : X.calm = true) (hg : Gl X "dict") (hm : X.mg "dict" = none) (hg2 : Gl X "zip") (hm2 : X.mg "zip" = none) (ha : PA X [e, e2] ta)
    (hs : starEach [e, e2] X.env = (false, eval e X.env) :: starEach [e2] X.env := by rfl) (hpl : (backTo pos2 (starEach [e2] X.env)).any (·.1) = false := by rfl)
    (na : starEach [.Call (.Name "zip" p2) [e, e2] [] pos2] X.env = (false, eval (.Call (.Name "zip" p2) [e, e2] [] pos2) X.env) :: starEach [] X.env := by rfl) : PE X (.Call (.Name "dict" p) [.Call (.Name "zip" p2) [e, e2] [] pos2] [] pos) (tDctZip X.K ta) := by
  refine ⟨fun pins s σ H Q I h => ?_⟩
  refine Call_ (ld_blt I hg hm boot_dict (PyProof.Rows.callWith_type1 (args_cons ?_ na) na))
  refine Call_ (ld_blt I hg2 hm2 PyProof.Rows.boot_zip (PyProof.Rows.callWith_type1 (thn (ha.run pos2 pins s σ H _ I h) fun us s1 ⟨vs, H1, I1, r1, a, b, ks, ys, ex, hqx, hqy, q⟩ => ?_) hs hpl))
  subst ex
  obtain ⟨u, v, rfl, ru, rv'⟩ := vals2 r1
  cases ru
  cases rv'
  obtain ⟨its, rv, p1, hz1⟩ := I1.list hqx
  obtain ⟨its2, rv2, pp2, hz2⟩ := I1.list hqy
  have la : a < s1.heap.objs.size := p1.lt
  have lb : b < s1.heap.objs.size := pp2.lt
  refine call_zip_2 p1.isList pp2.isList fun h' hz hTI hTO h1 h2 hsz hk => args_nil ?_
  have D := PySem.W.ktu_apart s1.heap.objs.size a b la lb
  have hl1 : h'.IsList a its.toArray := p1.isList.at fun o e => hk _ o e
  have hl2 : h'.IsList b its2.toArray := pp2.isList.at fun o e => hk _ o e
  obtain ⟨prs, kv, lp, hp⟩ := zip_kv (P := X.prog) (w := X.w) rv rv2
  have lx := rv.length
  rw [List.length_map] at lx hz1
  have hmin : min its.toArray.size its2.toArray.size ≤ sizeLine := by
    rw [List.size_toArray, List.size_toArray]
    omega
  refine PySem.call_dict_pairs (s := { s1 with heap := h' }) (knd := mixKind X.prog X.w) (kvs := prs) (PairArg.zip _ _ _ _ _ a b D its.toArray its2.toArray) (I1.ok.hd hc) ⟨hz, hTI, ⟨_, _, hTO⟩, h1, h2, hl1, hl2⟩ ⟨by rw [lp, List.size_toArray, List.size_toArray], fun i key v e => hp i key v (by simpa using e)⟩ hmin fun h2' tk hd hkp => ?_
  have k2 : ∀ b o, s1.heap.get? b = some o → h2'.get? b = some o := fun b o e => by
    have hlt : b < s1.heap.objs.size := Heap.lt_size e
    have ne : ∀ n : Nat, b ≠ s1.heap.objs.size + n := fun n => Nat.ne_of_lt (Nat.lt_of_lt_of_le hlt (Nat.le_add_right _ _))
    refine hkp b o (fun z => ?_) (hk b o e)
    simp only [List.mem_cons, List.not_mem_nil, or_false] at z
    rcases z with z | z | z | z
    · exact ne 4 z
    · exact ne 3 z
    · exact ne 0 z
    · exact ne 1 z
  have big : s1.heap.objs.size ≤ h'.objs.size := by rw [hsz]; exact Nat.le_add_right _ _
  have hm' : (h'.objs.size == sysModules) = false := beq_eq_false_iff_ne.mpr (Nat.ne_of_gt (Nat.lt_of_lt_of_le I1.big big))
  have hlen : (mergeK [] (ks.zip ys)).length ≤ sizeLine := by
    refine Nat.le_trans (length_mergeK (ks.zip ys) []) ?_
    rw [List.length_nil, Nat.zero_add, List.length_zip]
    exact Nat.le_trans (Nat.min_le_left _ _) hz1
  exact ⟨.ref h'.objs.size, upd H1 h'.objs.size (.dK (mergeK [] (ks.zip ys))), I1.laid (t' := tk) k2 big (show ObjOk X.prog X.w _ _ _ (.dK (mergeK [] (ks.zip ys))) from ⟨hlen, hm', merged [] prs, KV.merge kv .nil, hd⟩), rfl, q _ (I1.hok.fresh big)⟩
/-- a, b, c = x, y, z with plain local names -/
def tPar3 (i j k : Nat) (ta : TA) : TS := fun D σ H => ta σ H fun vs H1 => ∃ u v w, vs = [u, v, w] ∧ D.nx (((σ.set i (some u)).set j (some v)).set k (some w)) H1
theorem ps_par3 {i j k : Nat} {x y z : Str} {a b c : Expr} {ta : TA} {px py pz pt pos : Pos} {kt k2 pt2} (hc : X.calm = true) (hN : X.N.Nodup) (hi : X.N[i]? = some x) (hj : X.N[j]? = some y) (hk : X.N[k]? = some z) (hij : i ≠ j) (hik : i ≠ k) (hjk : j ≠ k)
    (hx : X.env.scope.names.lookup x = some .local) (hy : X.env.scope.names.lookup y = some .local) (hz : X.env.scope.names.lookup z = some .local) (ha : PA X [a, b, c] ta)
    (hw : swappedStores [.Tuple [.Name x px, .Name y py, .Name z pz] kt pt] (.Tuple [a, b, c] k2 pt2) X.env = pure (some [x, y, z]))
    (hs : swapsWithSole [.Tuple [.Name x px, .Name y py, .Name z pz] kt pt] (.Tuple [a, b, c] k2 pt2) pos.line X.env = pure false := by rfl) :
    PS X (.Assign [.Tuple [.Name x px, .Name y py, .Name z pz] kt pt] (.Tuple [a, b, c] k2 pt2) pos) (tPar3 i j k ta) := by
  refine ⟨fun pins s σ H D I h => ?_⟩
  rw [exec_Assign_arm]
  refine wpAny_bind (wpAny_standAt ?_)
  rw [hs]
  refine wpAny_bind (wpAny_pure ?_)
  rw [if_neg (by decide)]
  refine wpAny_bind (Tuple_ (thn (ha.run _ pins s σ H _ I h) fun us s1 ⟨vs, H1, I1, r1, q1⟩ => ?_))
  obtain ⟨v1, v2, v3, rfl, q1⟩ := q1
  obtain ⟨u1, u2, u3, rfl, r1, r2, r3⟩ : ∃ u1 u2 u3, us = [u1, u2, u3] ∧ RelV v1 u1 ∧ RelV v2 u2 ∧ RelV v3 u3 := by
    cases r1 with
    | cons g1 g =>
      obtain ⟨_, _, rfl, g2, g3⟩ := vals2 g
      exact ⟨_, _, _, rfl, g1, g2, g3⟩
  refine wpAny_newObj_type ?_ (by show 3 ≤ sizeLine; decide)
  have I2 : Inv X pins σ H1 { s1 with heap := s1.heap.push { cls := .type "tuple", data := .seq [u1, u2, u3].toArray } } := I1.kept (t' := s1.toks) fun b o e => Heap.get?_push_of_some _ e
  rw [hw]
  refine wpAny_bind (wpAny_pure ?_)
  show wpAny (model X.prog X.w) X.A (do rule "assign.swapped-stores"; let items ← unpackItems (.ref s1.heap.objs.size) 3 none; assignInOrder [fun v => bindName X.env z v, fun v => bindName X.env y v, fun v => bindName X.env x v] items.reverse; pure Flow.next) _ _ _
  refine wpAny_bind (wpAny_rule (wpAny_bind (unpackItems_tuple (items := #[u1, u2, u3]) (I.ok.hd hc) (IsTup.new s1.heap _) fun h' hx' => ?_)))
  have I3 := I2.kept (h' := h') (t' := s1.toks) fun b o e => hx' b o (Nat.ne_of_lt (Heap.lt_size e)) e
  show wpAny _ _ (assignInOrder [fun v => bindName X.env z v, fun v => bindName X.env y v, fun v => bindName X.env x v] [u3, u2, u1] >>= fun _ => pure Flow.next) _ _ _
  refine wpAny_bind (assignInOrder_cons (wpAny_bindName (store_ok I3 hN hk (.inl hz) r3 (fun s2 I4 => ?_) (.inr hz))))
  refine assignInOrder_cons (wpAny_bindName (store_ok I4 hN hj (.inl hy) r2 (fun s3 I5 => ?_) (.inr hy)))
  refine assignInOrder_cons (wpAny_bindName (store_ok I5 hN hi (.inl hx) r1 (fun s4 I6 => assignInOrder_nil (wpAny_pure ?_)) (.inr hx)))
  rw [List.set_comm _ _ (Ne.symm hij), List.set_comm _ _ (Ne.symm hik), List.set_comm _ _ (Ne.symm hjk)] at I6
  exact ⟨_, H1, I6, q1⟩
/-- t * 1: the same tuple -/
def rRepT1 (K : PySem.W.Frag) : R2 := fun x y H Q => ∃ l xs, x = .ref l ∧ y = .int 1 ∧ SqT K H l xs ∧ Q (.ref l) H
theorem tuple_mul1 (l : Addr) (items : Array Value) (n : Nat) (dd : Option Addr) (sl : Array (Option Value)) (u : Tok) :
    Meets (Builtin.«tuple.__mul__» ⟨[.ref l, .int 1 u], []⟩) (fun _ R s => s.heap.get? l = some { cls := .type "tuple", dict := dd, data := .seq items n, slots := sl } ∧ R (.ok (.ret (Value.ref l))) s) :=
  .of_wp fun prog w A R s h => by
    obtain ⟨hp, g, d, tk, os⟩ := s
    obtain ⟨hl, h⟩ := h
    have f1 := AutoSeq1.idx_int
    have c1 : (items.isEmpty || (1 : Int) == 1) = true := by rw [show ((1 : Int) == 1) = true from rfl, Bool.or_true]
    wp_walk using wpAny_loadPart' hl
    repeat (first
      | (refine wpAny_ite_true (decide_eq_true (by rw [c1])) ?_; wp_walk using wpAny_loadPart' hl)
      | (refine wpAny_ite_true (by rw [c1]) ?_; wp_walk using wpAny_loadPart' hl))
    all_goals first | exact ⟨_, rfl, h⟩ | exact h | skip
theorem op_repT1 : OpR X (binaryOp .Mult) (rRepT1 X.K) := by
  intro pins s σ H x y v u Q I rx ry h
  obtain ⟨l, xs, rfl, rfl, hT, q⟩ := h
  cases rx
  obtain ⟨t, rfl⟩ := ry
  obtain ⟨its, r, ⟨⟨cls, dd, data, sl⟩, ho, hc, n, hd⟩, hs⟩ := I.tuple hT
  simp only at hc hd
  subst hc hd
  exact wpAny_binaryOp_repeat_ref (T := "tuple") (U := "int") (by decide) ⟨_, ho, rfl⟩ (fun s' => typeIs_int s' 1 t) noFill_tuple_mul F.fills_int_mul F.slot_int_rmul repeat_tuple F.slot_int_index.lookup
    (call_meets F.slot_int_rmul (typeIs_int s 1 t) F.entry_int_rmul (F.args_int_rmul_2 _ _) (int_rmul_tuple 1 t l its.toArray n dd sl)
      ⟨ho, rfl, ⟨_, ho, rfl⟩, call_meets F.slot_tuple_mul ⟨_, ho, rfl⟩ F.entry_tuple_mul (F.args_tuple_mul_2 _ _) (tuple_mul1 l its.toArray n dd sl t) ⟨ho, .ref l, H, I, rfl, q⟩⟩)
/-- a tuple of one item times k, k from 1 on -/
def rRepU (K : PySem.W.Frag) : R2 := fun x y H Q => ∃ l k xs, x = .ref l ∧ y = .int k ∧ SqT K H l xs ∧ xs ≠ [] ∧ 1 ≤ k ∧ k ≤ 1000 ∧ xs.length ≤ 1000 ∧ (k = 1 → Q (.ref l) H) ∧ (2 ≤ k → ∀ p, H p = none → Q (.ref p) (upd H p (.tup (List.replicate k.toNat xs).flatten)))
theorem op_repU : OpR X (binaryOp .Mult) (rRepU X.K) := by
  intro pins s σ H x y v u Q I rx ry h
  obtain ⟨l, k, xs, rfl, rfl, hT, ne, k1, k2, sz, q1, q2⟩ := h
  by_cases e : k = 1
  · subst e
    exact op_repT1 pins s σ H _ _ v u Q I rx ry ⟨l, xs, rfl, rfl, hT, q1 rfl⟩
  · exact op_repT pins s σ H _ _ v u Q I rx ry ⟨l, k, xs, rfl, rfl, hT, ne, by omega, k2, sz, q2 (by omega)⟩
end
end Fr

namespace Fr
open PySem PySem.Spec PyProof.Rows L2
def dictS (nn : List (Str × Str)) : List (Key × V) := nn.map fun p => (Sum.inr p.1, V.str p.2)
theorem valS (k : Str) : ∀ nn : List (Str × Str), valV (dictS nn) (Sum.inr k) = (nn.lookup k).map V.str
  | [] => rfl
  | (a, b) :: nn => by
    show ((((Sum.inr a : Key), V.str b) :: dictS nn).find? fun kv => decide (kv.1 = Sum.inr k)).map (·.2) = _
    by_cases h : a = k
    · subst h
      rw [List.find?_cons_of_pos (by simp), List.lookup_cons_self]
      rfl
    · rw [List.find?_cons_of_neg (by simpa using h), List.lookup_cons, beq_eq_false_iff_ne.mpr fun z => h z.symm]
      exact valS k nn
def rnm (nn : List (Str × Str)) (x : Str) : Str := (nn.lookup x).getD x
def rnR (nn : List (Str × Str)) (r : Rd1) : Rd1 := ⟨rnm nn r.t, r.v, r.f⟩
def rnT (nn : List (Str × Str)) (t : Tb) : Tb := ⟨rnm nn t.n, t.c, t.rs.map (rnR nn)⟩
theorem look_of {nn : List (Str × Str)} (kd : (nn.map (·.1)).Nodup) {p : Str × Str} (h : p ∈ nn) : nn.lookup p.1 = some p.2 := by
  induction nn with
  | nil => cases h
  | cons q nn ih =>
    obtain ⟨a, b⟩ := q
    rw [List.map_cons, List.nodup_cons] at kd
    rcases List.mem_cons.mp h with rfl | h
    · rw [List.lookup_cons_self]
    · have ne : p.1 ≠ a := fun e => kd.1 (by rw [← e]; exact List.mem_map.mpr ⟨p, h, rfl⟩)
      rw [List.lookup_cons, beq_eq_false_iff_ne.mpr ne]
      exact ih kd.2 h
theorem look_no {nn : List (Str × Str)} {x : Str} (h : x ∉ nn.map (·.1)) : nn.lookup x = none := by
  induction nn with
  | nil => rfl
  | cons q nn ih =>
    obtain ⟨a, b⟩ := q
    rw [List.map_cons, List.mem_cons, not_or] at h
    rw [List.lookup_cons, beq_eq_false_iff_ne.mpr h.1]
    exact ih h.2
theorem rnm_in {nn : List (Str × Str)} (kd : (nn.map (·.1)).Nodup) {p : Str × Str} (h : p ∈ nn) : rnm nn p.1 = p.2 := by
  unfold rnm
  rw [look_of kd h]
  rfl
theorem rnm_out {nn : List (Str × Str)} {x : Str} (h : x ∉ nn.map (·.1)) : rnm nn x = x := by
  unfold rnm
  rw [look_no h]
  rfl
/-- what a dict of new names keeps -/
structure Ren (N : List Str) (nn : List (Str × Str)) : Prop where
  keys : ∀ p ∈ nn, p.1 ∈ N
  kd : (nn.map (·.1)).Nodup
  vd : (nn.map (·.2)).Nodup
  cov : ∀ p ∈ nn, p.2 ∈ N → p.2 ∈ nn.map (·.1)
  ok : ∀ p ∈ nn, isName p.2 = true
  few : nn.length ≤ 12
theorem pair_of {nn : List (Str × Str)} {x : Str} (h : x ∈ nn.map (·.1)) : ∃ y, (x, y) ∈ nn := by
  obtain ⟨p, hp, rfl⟩ := List.mem_map.mp h
  exact ⟨p.2, hp⟩
theorem val_inj {nn : List (Str × Str)} (vd : (nn.map (·.2)).Nodup) {p q : Str × Str} (hp : p ∈ nn) (hq : q ∈ nn) (e : p.2 = q.2) : p = q := by
  induction nn with
  | nil => cases hp
  | cons r nn ih =>
    rw [List.map_cons, List.nodup_cons] at vd
    rcases List.mem_cons.mp hp with ep | hp'
    · rcases List.mem_cons.mp hq with eq | hq'
      · rw [ep, eq]
      · exact (vd.1 (List.mem_map.mpr ⟨q, hq', by rw [← ep, e]⟩)).elim
    · rcases List.mem_cons.mp hq with eq | hq'
      · exact (vd.1 (List.mem_map.mpr ⟨p, hp', by rw [← eq, e]⟩)).elim
      · exact ih vd.2 hp' hq'
theorem Ren.inj {N : List Str} {nn : List (Str × Str)} (R : Ren N nn) {x y : Str} (hx : x ∈ N) (hy : y ∈ N) (e : rnm nn x = rnm nn y) : x = y := by
  by_cases kx : x ∈ nn.map (·.1)
  · obtain ⟨u, hu⟩ := pair_of kx
    rw [rnm_in R.kd hu] at e
    by_cases ky : y ∈ nn.map (·.1)
    · obtain ⟨v, hv⟩ := pair_of ky
      rw [rnm_in R.kd hv] at e
      exact congrArg Prod.fst (val_inj R.vd hu hv e)
    · rw [rnm_out ky] at e
      have e : u = y := e
      exact absurd (by rw [← e]; exact R.cov _ hu (by show u ∈ N; rw [e]; exact hy)) ky
  · rw [rnm_out kx] at e
    by_cases ky : y ∈ nn.map (·.1)
    · obtain ⟨v, hv⟩ := pair_of ky
      rw [rnm_in R.kd hv] at e
      have e : x = v := e
      exact absurd (by rw [e]; exact R.cov _ hv (by show v ∈ N; rw [← e]; exact hx)) kx
    · rwa [rnm_out ky] at e
theorem rnT_names (nn : List (Str × Str)) (ts : List Tb) : (ts.map (rnT nn)).map (·.n) = (ts.map (·.n)).map (rnm nn) := by
  rw [List.map_map, List.map_map]
  rfl
theorem nodup_inj {f : Str → Str} : ∀ {N : List Str}, (∀ x ∈ N, ∀ y ∈ N, f x = f y → x = y) → N.Nodup → (N.map f).Nodup
  | [], _, _ => List.nodup_nil
  | a :: N, h, n => by
    rw [List.nodup_cons] at n
    rw [List.map_cons, List.nodup_cons]
    refine ⟨fun hm => ?_, nodup_inj (fun x hx y hy => h x (List.mem_cons_of_mem _ hx) y (List.mem_cons_of_mem _ hy)) n.2⟩
    obtain ⟨b, hb, e⟩ := List.mem_map.mp hm
    exact n.1 (by rw [← h b (List.mem_cons_of_mem _ hb) a List.mem_cons_self e]; exact hb)
theorem Ren.nodup {nn : List (Str × Str)} {ts : List Tb} (R : Ren (ts.map (·.n)) nn) (n : (ts.map (·.n)).Nodup) : ((ts.map (rnT nn)).map (·.n)).Nodup := by
  rw [rnT_names]
  exact nodup_inj (fun x hx y hy e => R.inj hx hy e) n
theorem Ren.name {N : List Str} {nn : List (Str × Str)} (R : Ren N nn) {x : Str} (h : isName x = true) : isName (rnm nn x) = true := by
  by_cases kx : x ∈ nn.map (·.1)
  · obtain ⟨u, hu⟩ := pair_of kx
    rw [rnm_in R.kd hu]
    exact R.ok _ hu
  · rw [rnm_out kx]
    exact h
theorem Ren.sys {d m : Int} {ts : List Tb} {nn : List (Str × Str)} (R : Ren (ts.map (·.n)) nn) (h : Sys1 d m ts) : Sys1 d m (ts.map (rnT nn)) := by
  refine ⟨h.d1, h.d3, h.m2, h.mx, by rw [List.length_map]; exact h.l1, by rw [List.length_map]; exact h.l6, ⟨?_, R.nodup h.ok.nodup, ?_, ?_, ?_⟩, ?_⟩
  · intro t ht
    obtain ⟨u, hu, rfl⟩ := List.mem_map.mp ht
    exact R.name (h.ok.names u hu)
  · rw [List.map_map]
    refine Nat.le_trans (Nat.le_of_eq ?_) h.ok.few
    congr 1
    refine List.map_congr_left fun t _ => ?_
    show (t.rs.map (rnR nn)).length = _
    rw [List.length_map]
  · intro t ht r hr
    obtain ⟨u, hu, rfl⟩ := List.mem_map.mp ht
    obtain ⟨r', hr', rfl⟩ := List.mem_map.mp hr
    have z := h.ok.reads u hu r' hr'
    unfold isRead at z ⊢
    rw [Bool.and_eq_true] at z ⊢
    exact ⟨R.name z.1, z.2⟩
  · intro t ht r hr
    obtain ⟨u, hu, rfl⟩ := List.mem_map.mp ht
    obtain ⟨r', hr', rfl⟩ := List.mem_map.mp hr
    rw [rnT_names]
    exact List.mem_map.mpr ⟨r'.t, h.ok.here u hu r' hr', rfl⟩
  · intro t ht
    obtain ⟨u, hu, rfl⟩ := List.mem_map.mp ht
    have z := h.sm u hu
    refine ⟨z.c, fun r hr => ?_, fun r hr => ?_⟩
    · obtain ⟨r', hr', rfl⟩ := List.mem_map.mp hr
      exact z.f r' hr'
    · obtain ⟨r', hr', rfl⟩ := List.mem_map.mp hr
      exact z.v r' hr'
theorem merge_new : ∀ (nn : List (Str × Str)) (acc : List (Str × Str)), ((acc ++ nn).map (·.1)).Nodup → mergeK (dictS acc) (dictS nn) = dictS (acc ++ nn)
  | [], acc, _ => by
    rw [List.append_nil]
    rfl
  | (a, b) :: nn, acc, h => by
    have hno : valV (dictS acc) (Sum.inr a) = none := by
      rw [valS, look_no fun hm => ?_]
      · rfl
      · rw [List.map_append, List.nodup_append] at h
        exact h.2.2 a hm a List.mem_cons_self rfl
    show mergeK (putK (dictS acc) (Sum.inr a) (V.str b)) (dictS nn) = _
    rw [putK_new _ hno, show dictS acc ++ [((Sum.inr a : Key), V.str b)] = dictS (acc ++ [(a, b)]) by unfold dictS; rw [List.map_append]; rfl, merge_new nn (acc ++ [(a, b)]) (by rw [List.append_assoc]; exact h), List.append_assoc]
    rfl
end Fr

namespace Fr
open PySem PySem.Spec PyProof.Rows L2
def RowAt (K : PySem.W.Frag) (B : Hp) (z : V) (y : Tb × Addr) : Prop := ∃ u es, z = .ref u ∧ SqT K B u [.str y.1.n, .int y.1.c, .ref y.2] ∧ B y.2 = some (.lst es) ∧ DpAll K B es (y.1.rs.map Rd1.d)
def RowsL (K : PySem.W.Frag) (B : Hp) (p : Addr) (ts : List Tb) : Prop := ∃ (zs : List V) (tls : List (Tb × Addr)), tls.map (·.1) = ts ∧ B p = some (.lst zs) ∧ Paired (RowAt K B) zs tls ∧ (tls.map (·.2)).Nodup ∧ p ∉ tls.map (·.2)
theorem RowAt.mono {K : PySem.W.Frag} {B B' : Hp} (e : Same B B') {z : V} {y : Tb × Addr} (h : RowAt K B z y) : RowAt K B' z y := by
  obtain ⟨u, es, h1, h2, h3, h4⟩ := h
  exact ⟨u, es, h1, sqt e h2, e _ _ h3, dpsm e _ _ h4⟩
theorem RowsL.mono {K : PySem.W.Frag} {B B' : Hp} {p : Addr} {ts : List Tb} (e : Same B B') (h : RowsL K B p ts) : RowsL K B' p ts := by
  obtain ⟨zs, tls, h1, h2, h3, h4, h5⟩ := h
  exact ⟨zs, tls, h1, e _ _ h2, _root_.L2.Paired.mapP h3 fun _ _ r => r.mono e, h4, h5⟩
theorem rows_dps {K : PySem.W.Frag} {B : Hp} : ∀ {zs : List V} {tls : List (Tb × Addr)}, Paired (RowAt K B) zs tls → DpAll K B zs ((tls.map (·.1)).map Tb.d)
  | [], _, h => by cases h; exact .nil
  | z :: zs, _, h => by
    cases h with
    | cons h1 h2 =>
      obtain ⟨u, es, rfl, a2, a3, a4⟩ := h1
      exact .cons (.tup a2 (.cons (.str _) (.cons (.int _) (.cons (.lst (Or.inl (Or.inl a3)) a4) .nil)))) (rows_dps h2)
theorem RowsL.ld {K : PySem.W.Frag} {B : Hp} {p : Addr} {ts : List Tb} (h : RowsL K B p ts) : LD K B p (ts.map Tb.d) := by
  obtain ⟨zs, tls, rfl, h2, h3, _⟩ := h
  exact ⟨zs, h2, rows_dps h3⟩
section
variable {P : Program} {w : World} {K : PySem.W.Frag} {mg : Str → Option Value} {base : Heap}
def spRowsL (K : PySem.W.Frag) : Sp := fun vs H Q _ => ∃ (r : Addr) (dims many most wide : Int) (m : Nat) (B : Hp), vs = [.ref r, .int dims, .int many, .int most, .int wide] ∧ RS r m B H ∧ 1 ≤ dims ∧ dims ≤ 3 ∧ 1 ≤ many ∧ many ≤ 6 ∧ 0 ≤ most ∧ most ≤ 12 ∧ 0 ≤ wide ∧ wide ≤ 1000 ∧ m ≤ 2 ^ 58 ∧
  ∀ p B' H' (ts : List Tb), Same B B' → RS r (m + 1000) B' H' → RowsL K B' p ts → (ts.length : Int) = many → OkT dims ts → (∀ t ∈ ts, PyData.strOk t.n = true) → (∀ t ∈ ts, SmT t) → ((∀ t ∈ ts, t.n ∈ W0) ∨ ∀ t ∈ ts, t.n ∈ W0.map row5) → (((ts.map fun t => t.rs.length).sum : Nat) : Int) ≤ most → Q (.ref p) H'
theorem ok_made_rowsL {f : Addr} {fd : FuncData} (F : Fun K "_law_made_rows" "_law_made_rows" s_Lmade_rows f fd) (T : Txt mg) (c_Ldraw : C8.Cal P w K mg base 1 "_law_draw" spDraw []) (c_Lmixed : C8.Cal P w K mg base 2 "_law_mixed" (spMixed K) []) (c_Lvector : C8.Cal P w K mg base 2 "_law_vector" (spVector K) []) : FnOk P w K mg base CX0 3 f fd ["_law_rng_here", "_law_dims", "_law_many", "_law_most", "_law_wide"] (spRowsL K) := by
  refine F.ok sc_Lmade_rows (fun vs H Q E h => ?_) (fun cdv A outer sh H vs Q E hr h => ?_)
  · obtain ⟨r, dims, many, most, wide, m, B, rfl, _⟩ := h
    rfl
  · obtain ⟨r, dims, many, most, wide, m, B, rfl, R, hd1, hd3, hn1, hn6, hm0, hm12, hw0, hw1, hm, q⟩ := h
    refine ⟨_, (pss_cons (ps_set (i := 5) sc_Lmade_rows.nd rfl (by first | exact Or.inl rfl | exact Or.inr rfl) (pe_slice sl_list (C8.pe_c c_Lmixed hr (by decide) (by rfl) (pa_cons (pv 0) (pa_cons (pe_lst (pa_cons pe_str (pa_cons pe_str (pa_cons pe_str (pa_cons pe_str (pa_cons pe_str (pa_cons pe_str pa_nil))))))) pa_nil))) po_none (po_some (pv 2))))
  (pss_cons (ps_csq (ps_if (pt_cmpR op_eq (C8.pe_c c_Ldraw hr (by decide) (by rfl) (pa_cons (pv 0) (pa_cons pe_int pa_nil))) pe_int (nomark _))
    (pss_one (ps_setLc (i := 5) (own := [("_law_word", 6)]) (g := gName 6) (tt := tYes) (by rfl) sc_Lmade_rows.nd rfl rfl (sw_true rfl rfl rfl (by decide +kernel)) (pi_list (pv 5)) (blkOk_by (N := ["_law_rng_here", "_law_dims", "_law_many", "_law_most", "_law_wide", "_law_words", "_law_word", "_law_rows", "_law_turn", "_law_number", "_law_some", "_law_factor"]) (sc := defScope s_Lmade_rows) (by decide +kernel)) (fun _ _ _ _ _ => (pg_name (i := 6) sc_Lmade_rows.nd rfl (by first | exact Or.inl rfl | exact Or.inr rfl))) (fun _ _ _ _ _ => pts_nil) (fun _ _ _ _ _ => (pe_op op_add_str pe_str (pe_slice sl_str (pv 6) po_none (po_some pe_int))))))
    pss_nil))
  (pss_cons (ps_setLc (i := 7) (own := [("_law_word", 6)]) (g := gName 6) (tt := tYes) (by rfl) sc_Lmade_rows.nd rfl rfl (sw_true rfl rfl rfl (by decide +kernel)) (pi_list (pv 5)) (blkOk_by (N := ["_law_rng_here", "_law_dims", "_law_many", "_law_most", "_law_wide", "_law_words", "_law_word", "_law_rows", "_law_turn", "_law_number", "_law_some", "_law_factor"]) (sc := defScope s_Lmade_rows) (by decide +kernel)) (fun _ _ _ _ _ => (pg_name (i := 6) sc_Lmade_rows.nd rfl (by first | exact Or.inl rfl | exact Or.inr rfl))) (fun _ _ _ _ _ => pts_nil) (fun _ _ _ _ _ => (pe_tup (pa_cons (pv 6) (pa_cons (pe_op op_sub (C8.pe_c c_Ldraw hr (by decide) (by rfl) (pa_cons (pv 0) (pa_cons pe_int pa_nil))) pe_int) (pa_cons (pe_lst pa_nil) pa_nil))))))
  (pss_cons (ps_for PassesOwn.never rfl (pi_range1 (by rfl) T.b_range (pa_cons (C8.pe_c c_Ldraw hr (by decide) (by rfl) (pa_cons (pv 0) (pa_cons (pe_op op_add (pv 3) pe_int) pa_nil))) pa_nil)) (pg_name (i := 8) sc_Lmade_rows.nd rfl (by first | exact Or.inl rfl | exact Or.inr rfl))
    (pss_cons (ps_asg (pe_ix ix_list (pv 7) (C8.pe_c c_Ldraw hr (by decide) (by rfl) (pa_cons (pv 0) (pa_cons (pv 2) pa_nil))) (fun _ _ => rfl)) (pg_tup rfl (pgs_cons (pg_name (i := 6) sc_Lmade_rows.nd rfl (by first | exact Or.inl rfl | exact Or.inr rfl)) (pgs_cons (pg_name (i := 9) sc_Lmade_rows.nd rfl (by first | exact Or.inl rfl | exact Or.inr rfl)) (pgs_cons (pg_name (i := 10) sc_Lmade_rows.nd rfl (by first | exact Or.inl rfl | exact Or.inr rfl)) pgs_nil)))))
    (pss_cons (ps_set (i := 11) sc_Lmade_rows.nd rfl (by first | exact Or.inl rfl | exact Or.inr rfl) (pe_ix ix_list (pe_lst (pa_cons pe_int (pa_cons (pe_un un_neg pe_int) (pa_cons (pe_op op_add pe_int (C8.pe_c c_Ldraw hr (by decide) (by rfl) (pa_cons (pv 0) (pa_cons pe_int pa_nil)))) (pa_cons (pe_op op_sub (pe_op op_sub pe_int pe_int) (C8.pe_c c_Ldraw hr (by decide) (by rfl) (pa_cons (pv 0) (pa_cons pe_int pa_nil)))) pa_nil))))) (C8.pe_c c_Ldraw hr (by decide) (by rfl) (pa_cons (pv 0) (pa_cons pe_int pa_nil))) (fun _ _ => rfl)))
    (pss_one (ps_expr (pe_bm PySem.F.plainAttrs_list PySem.F.slot_list_append PySem.F.type_list_append mt_append (pv 10) (pa_cons (pe_tup (pa_cons (pe_ix ix_list (pv 5) (C8.pe_c c_Ldraw hr (by decide) (by rfl) (pa_cons (pv 0) (pa_cons (pv 2) pa_nil))) (fun _ _ => rfl)) (pa_cons (C8.pe_c c_Lvector hr (by decide) (by rfl) (pa_cons (pv 0) (pa_cons (pv 1) (pa_cons (pv 4) pa_nil)))) (pa_cons (pv 11) pa_nil)))) pa_nil)))))))
  (pss_one (ps_ret (pv 7))))))), ?_⟩
    -- the words
    refine ⟨_, rfl, (by show 6 ≤ sizeLine; decide), fun p0 hp0 => ?_⟩
    have bp0 := free_of R.s hp0
    have rp0 := R.ne hp0
    have R0 : RS r m (upd B p0 (.lst (W0.map V.str))) (upd H p0 (.lst (W0.map V.str))) := (R.new hp0).keep upd_same bp0 rp0
    refine ⟨r, p0, m, _, W0.map V.str, W0.map PyData.str, rfl, R0, Or.inl (Or.inl upd_same), strs_dps _, ?_, by decide, by omega, fun p1 H1 ys es b1 r1 pm dys R1 => ?_⟩
    · intro d hd
      obtain ⟨x, _, rfl⟩ := List.mem_map.mp hd
      exact ⟨by simp only [PyData.canLay0]; exact (W0_names x (by assumption)).2.2.2.1, by simp [PyData.depth]⟩
    have s01 : Same B (upd (upd B p0 (.lst (W0.map V.str))) p1 (.lst ys)) := same_tr (snew bp0) (snew b1)
    have b1at : (upd (upd B p0 (.lst (W0.map V.str))) p1 (.lst ys)) p1 = some (.lst ys) := upd_same
    obtain ⟨ws0, rfl, pw⟩ := perm_words pm
    obtain rfl := dps_strs dys
    generalize upd (upd B p0 (.lst (W0.map V.str))) p1 (.lst (ws0.map V.str)) = B1 at R1 s01 b1at
    have hwl : ws0.length = 6 := pw.length_eq.symm
    refine ⟨_, rfl, many, rfl, p1, _, rfl, Or.inl (Or.inl (R1.s _ _ b1at)), fun p2 hp2 => ?_⟩
    have ecut : cutV (ws0.map V.str) none (some many) = (ws0.take many.toNat).map V.str := by
      have h := cut_to (ws0.map V.str) many.toNat (by rw [List.length_map]; omega)
      rw [Int.toNat_of_nonneg (by omega)] at h
      rw [h, List.map_take]
    rw [ecut]
    have R2 := (R1.new (o := .lst ((ws0.take many.toNat).map V.str)) hp2).keep upd_same (free_of R1.s hp2) (R1.ne hp2)
    have s02 : Same B (upd B1 p2 (.lst ((ws0.take many.toNat).map V.str))) := same_tr s01 (snew (free_of R1.s hp2))
    have b2at : (upd B1 p2 (.lst ((ws0.take many.toNat).map V.str))) p2 = some (.lst ((ws0.take many.toNat).map V.str)) := upd_same
    generalize upd B1 p2 (.lst ((ws0.take many.toNat).map V.str)) = B2 at R2 s02 b2at
    generalize upd H1 p2 (.lst ((ws0.take many.toNat).map V.str)) = H2 at R2
    -- the if
    refine ⟨fun σ H' => ∃ (wl : Addr) (B' : Hp) (ws : List Str), σ = [some (.ref r), some (.int dims), some (.int many), some (.int most), some (.int wide), some (.ref wl), none, none, none, none, none, none] ∧ RS r (m + 7) B' H' ∧ Same B B' ∧ B' wl = some (.lst (ws.map V.str)) ∧ Words ws many.toNat, ?_, ?_⟩
    · rintro σ H3 ⟨wl, B', ws, rfl, R3, s3, hws, W⟩
      have wlen : ws.length ≤ 6 := by
        have := W.len
        omega
      refine ⟨_, rfl, wl, rfl, ⟨_, Or.inl (Or.inl (R3.s _ _ hws))⟩, fun D hD => lc_it (walk_list (K := K) (a := wl) (xs := ws.map V.str)) (fun i H' => ∃ (B2 : Hp) (rows : List Row1), Same B' B2 ∧ RS r (m + 7 + i) B2 H' ∧ RowsAt K B2 H' r rows ∧ rows.map (·.w) = ws.take i ∧ (∀ y ∈ rows, y.rs = [] ∧ -99 ≤ y.c ∧ y.c ≤ 99) ∧ H' D = some (.lst (rows.map fun y => V.ref y.t)) ∧ B2 D = none ∧ (∀ y ∈ rows, y.l ≠ D))
        ⟨B', [], same_refl, R3.new hD, ⟨fun i y h => (by cases h), fun i j y z h => (by cases h)⟩, rfl, (by intro y h; cases h), upd_same, free_of R3.s hD, (by intro y h; cases h)⟩ (fun i H' _ ⟨B2, rows, b1, b2, _⟩ => Or.inl (Or.inl (b2.s _ _ (b1 _ _ hws)))) ?_ ?_⟩
      · rintro i x _ H4 hi ⟨B2, rows, b1, b2, b3, b4, b5, b6, b7, b8⟩ ⟨rfl, hx⟩
        rw [List.length_map] at hi
        rw [List.getElem?_map] at hx
        obtain ⟨wd, hwd, rfl⟩ := Option.map_eq_some_iff.mp hx
        have hrl : rows.length = i := by
          have := congrArg List.length b4
          rw [List.length_map, List.length_take] at this
          omega
        have rD := R3.ne hD
        refine ⟨rfl, yes_if ?_⟩
        refine ⟨_, rfl, _, rfl, r, _, _, rfl, b2.ok, by omega, by decide, by decide, fun d H6 d0 d1 D6 => ⟨_, _, rfl, rfl, Nat.zero_le _, fun l hl => ⟨(by show 3 ≤ sizeLine; decide), fun t ht => ?_⟩⟩⟩
        have R6 := b2.dr D6
        have R7 := R6.new (o := .lst []) hl
        have D7 : (upd H6 l (.lst [])) D = some (.lst (rows.map fun y => V.ref y.t)) := by
          have h6 : H6 D = some (.lst (rows.map fun y => V.ref y.t)) := by rw [D6.ne _ rD.symm]; exact b6
          rw [upd_ne (ne_of_none h6 hl)]
          exact h6
        have lD : l ≠ D := fun z => by
          rw [z, D6.ne _ rD.symm, b6] at hl
          cases hl
        have tD : t ≠ D := fun z => by
          rw [z, D7] at ht
          cases ht
        have tl : t ≠ l := fun z => by
          rw [z, upd_same] at ht
          cases ht
        have bt : B2 t = none := free_of R7.s ht
        have bl : B2 l = none := free_of R6.s hl
        have R8 := (R7.new (o := .tup [.str wd, .int (d - 99), .ref l]) ht).keep upd_same bt (R7.ne ht)
        have b8D : (upd B2 t (.tup [.str wd, .int (d - 99), .ref l])) D = none := by rw [upd_ne tD.symm]; exact b7
        refine ⟨_, by rw [upd_ne tD.symm]; exact D7, small1000 (by rw [List.length_map]; omega), ?_⟩
        have hold : ∀ (j : Nat) (y : Row1), rows[j]? = some y → y.l ≠ D ∧ y.l ≠ l ∧ y.l ≠ t ∧ H6 y.l = H4 y.l := fun j y hy => by
          obtain ⟨a1, a2, a3, xs, a4, a5⟩ := b3.at_ j y hy
          have e6 : H6 y.l = H4 y.l := D6.ne _ a3.symm
          have h6 : H6 y.l = some (.lst xs) := by rw [e6]; exact a4
          have n1 := ne_of_none h6 hl
          refine ⟨b8 y (List.mem_of_getElem? hy), n1, ?_, e6⟩
          exact ne_of_none (by rw [upd_ne n1]; exact h6) ht
        refine ⟨upd B2 t (.tup [.str wd, .int (d - 99), .ref l]), rows ++ [⟨t, wd, d - 99, l, []⟩], same_tr b1 (snew bt), (R8.put b8D rD), ?_, ?_, ?_, ?_, b8D, ?_⟩
        · refine RowsAt.snoc (b3.step (snew bt) fun j y hy => ?_) (Or.inl (Or.inl upd_same)) ?_ (R6.ne hl) ?_ rfl fun j z hz => (hold j z hz).2.1
          · obtain ⟨n1, n2, n3, n4⟩ := hold j y hy
            refine ⟨?_, ?_⟩
            · rw [upd_ne n3]
              exact (b3.at_ j y hy).2.1
            · rw [upd_ne n1, upd_ne n3, upd_ne n2]
              exact n4
          · show (upd B2 t _) l = none
            rw [upd_ne tl.symm]
            exact bl
          · show (upd (upd (upd H6 l (.lst [])) t _) D _) l = _
            rw [upd_ne lD, upd_ne tl.symm, upd_same]
        · rw [List.map_append, b4, List.take_add_one, hwd]
          rfl
        · intro y hy
          rcases List.mem_append.mp hy with h | h
          · exact b5 y h
          · rw [List.mem_singleton.mp h]
            exact ⟨rfl, (by show -99 ≤ d - 99; omega), (by show d - 99 ≤ 99; omega)⟩
        · rw [upd_same, List.map_append]
          rfl
        · intro y hy
          rcases List.mem_append.mp hy with h | h
          · exact b8 y h
          · rw [List.mem_singleton.mp h]
            exact lD
      · rintro H4 ⟨B2, rows, b1, b2, b3, b4, b5, b6, b7, b8⟩
        rw [List.length_map, List.take_length] at b4
        rw [List.length_map] at b2
        have rD := R3.ne hD
        have R4 := b2.keep b6 b7 rD
        have M4 := b3.step (B' := upd B2 D (.lst (rows.map fun y => V.ref y.t))) (H' := H4) (snew b7) fun j y hy => ⟨by rw [upd_ne (b8 y (List.mem_of_getElem? hy))]; exact (b3.at_ j y hy).2.1, rfl⟩
        have B4D : (upd B2 D (.lst (rows.map fun y => V.ref y.t))) D = some (.lst (rows.map fun y => V.ref y.t)) := upd_same
        have s4 : Same B' (upd B2 D (.lst (rows.map fun y => V.ref y.t))) := same_tr b1 (snew b7)
        generalize upd B2 D (.lst (rows.map fun y => V.ref y.t)) = B4 at R4 M4 B4D s4
        have hrl : rows.length = ws.length := by
          have := congrArg List.length b4
          rw [List.length_map] at this
          exact this
        have s0 : (rows.map fun y => y.rs.length).sum = 0 := sum_zero fun y hy => by rw [(b5 y hy).1]; rfl
        have wmany : (ws.length : Int) = many := by
          have := W.len
          omega
        refine ⟨_, rfl, _, rfl, _, _, rfl, rfl, r, _, _, rfl, R4.ok, by omega, by omega, by omega, fun d H5 d0 d1 D5 => ⟨d, rfl, by omega, by omega, ?_⟩⟩
        refine for_range (fun i σ H' => ∃ (B5 : Hp) (rows' : List Row1) (y6 y8 y9 y10 y11 : Option V), σ = [some (.ref r), some (.int dims), some (.int many), some (.int most), some (.int wide), some (.ref wl), y6, some (.ref D), y8, y9, y10, y11] ∧ RS r (m + 20 + 20 * i) B5 H' ∧ RowsAt K B5 H' r rows' ∧ Same B4 B5 ∧ rows'.map (·.w) = ws ∧ rows'.map (fun y => V.ref y.t) = rows.map (fun y => V.ref y.t) ∧ (rows'.map fun y => y.rs.length).sum = i ∧ ∀ y ∈ rows', (-99 ≤ y.c ∧ y.c ≤ 99) ∧ ∀ rd ∈ y.rs, isRead dims rd = true ∧ rd.t ∈ ws ∧ (-10 ≤ rd.f ∧ rd.f ≤ 10) ∧ ∀ x ∈ rd.v, -1000 ≤ x ∧ x ≤ 1000)
          ⟨B4, rows, none, none, none, none, none, rfl, (R4.dr D5).mono (by omega), M4.step same_refl fun j y hy => ⟨(M4.at_ j y hy).2.1, D5.ne _ (M4.at_ j y hy).2.2.1.symm⟩, same_refl, b4, rfl, s0, fun y hy => ⟨(b5 y hy).2, fun rd hrd => by
            rw [(b5 y hy).1] at hrd
            cases hrd⟩⟩ ?_ ?_
        · rintro i σ H6 hi ⟨B5, rows', y6, y8, y9, y10, y11, rfl, R5, M5, s5, e1, e2, e3, e4⟩
          have hi12 : i < 12 := by omega
          have hrl' : rows'.length = ws.length := by
            have := congrArg List.length e1
            rw [List.length_map] at this
            exact this
          -- the row
          refine ⟨_, rfl, _, rfl, _, rfl, r, many, _, rfl, R5.ok, by omega, by omega, by omega, fun k1 H7 k10 k11 D7 => ?_⟩
          have R7 := R5.dr D7
          have M7 := M5.step (H' := H7) same_refl fun j y hy => ⟨(M5.at_ j y hy).2.1, D7.ne _ (M5.at_ j y hy).2.2.1.symm⟩
          obtain ⟨v, a1, _, a3⟩ := atI_in (xs := rows'.map fun y => V.ref y.t) k10 (by rw [List.length_map]; omega)
          rw [List.getElem?_map] at a3
          obtain ⟨y, hy, rfl⟩ := Option.map_eq_some_iff.mp a3
          obtain ⟨c1, c2, c3, xs, c4, c5⟩ := M7.at_ _ y hy
          refine ⟨D, _, k1, _, rfl, rfl, Or.inl (Or.inl (R7.s _ _ (s5 _ _ B4D))), by rw [← e2]; exact a1, y.t, _, rfl, sqt R7.s c1, rfl, _, _, rfl, _, _, rfl, _, _, rfl, rfl, ?_⟩
          -- the factor
          refine ⟨1, rfl, _, rfl, r, 9, _, rfl, R7.ok, by omega, by decide, by decide, fun k2 H8 k20 k21 D8 => ⟨_, _, rfl, rfl, _, _, rfl, rfl, ?_⟩⟩
          have R8 := R7.dr D8
          have M8 := M7.dr D8
          refine ⟨_, rfl, r, 9, _, rfl, R8.ok, by omega, by decide, by decide, fun k3 H9 k30 k31 D9 => ⟨_, _, rfl, rfl, (by show 4 ≤ sizeLine; decide), fun p hp => ?_⟩⟩
          have R9 := R8.dr D9
          have M9 := M8.dr D9
          have p10 : (upd H9 p (.lst [.int 1, .int (-1), .int (1 + k2), .int (0 - 1 - k3)])) p = some (.lst ([1, -1, 1 + k2, 0 - 1 - k3].map V.int)) := upd_same
          have R10 := R9.new (o := .lst [.int 1, .int (-1), .int (1 + k2), .int (0 - 1 - k3)]) hp
          have M10 := M9.new (o := .lst [.int 1, .int (-1), .int (1 + k2), .int (0 - 1 - k3)]) hp
          have rp := R9.ne hp
          refine ⟨_, rfl, r, 4, _, rfl, R10.ok, by omega, by decide, by decide, fun k4 H11 k40 k41 D11 => ?_⟩
          have R11 := R10.dr D11
          have M11 := M10.dr D11
          have p11 : H11 p = some (.lst ([1, -1, 1 + k2, 0 - 1 - k3].map V.int)) := by rw [D11.ne _ rp.symm]; exact p10
          obtain ⟨fv, f1, f2, _⟩ := atI_in (xs := [1, -1, 1 + k2, 0 - 1 - k3].map V.int) k40 k41
          obtain ⟨fc, f3, rfl⟩ := List.mem_map.mp f2
          have hfc : fc ≠ 0 ∧ -10 ≤ fc ∧ fc ≤ 10 := by
            simp only [List.mem_cons, List.not_mem_nil, or_false] at f3
            omega
          refine ⟨p, _, k4, _, rfl, rfl, Or.inl (Or.inl p11), f1, ?_⟩
          -- the append
          obtain ⟨g1, g2, g3, xs2, g4, g5⟩ := M11.at_ _ y hy
          refine ⟨_, rfl, Or.inl ⟨rfl, _, Or.inl (Or.inl g4)⟩, _, rfl, _, rfl, _, rfl, r, many, _, rfl, R11.ok, by omega, by omega, by omega, fun k5 H12 k50 k51 D12 => ?_⟩
          have R12 := R11.dr D12
          have M12 := M11.dr D12
          obtain ⟨tv, t1, _, t3⟩ := atI_in (xs := ws.map V.str) k50 (by rw [List.length_map]; omega)
          rw [List.getElem?_map] at t3
          obtain ⟨tw, htw, rfl⟩ := Option.map_eq_some_iff.mp t3
          refine ⟨wl, _, k5, _, rfl, rfl, Or.inl (Or.inl (R12.s _ _ (s5 _ _ (s4 _ _ hws)))), t1, ?_⟩
          refine ⟨_, rfl, _, rfl, _, rfl, r, dims, wide, _, cutr H12 r, rfl, RS.cut R12.ok, by omega, by omega, by omega, by omega, by omega, fun q1 H13 vec hq1 rq1 hvl hvb R13 => ?_⟩
          obtain ⟨R13', bq, hq12, keep⟩ := R12.vec R13 hq1 rq1
          have M13 := M12.step (B' := upd B5 q1 (.tup (vec.map V.int))) (H' := H13) (snew bq) fun j z hz => by
            obtain ⟨a1, a2, a3, xs, a4, a5⟩ := M12.at_ j z hz
            refine ⟨?_, keep _ a3.symm (by rw [a4]; exact fun z => by cases z)⟩
            rw [upd_ne (ne_of_none a4 hq12)]
            exact a2
          refine ⟨_, rfl, (by show 3 ≤ sizeLine; decide), fun u hu => ?_⟩
          have bu := free_of R13'.s hu
          have R14 := (R13'.new (o := .tup [.str tw, .ref q1, .int fc]) hu).keep upd_same bu (R13'.ne hu)
          have M14 := M13.step (B' := upd (upd B5 q1 (.tup (vec.map V.int))) u (.tup [.str tw, .ref q1, .int fc])) (H' := upd H13 u (.tup [.str tw, .ref q1, .int fc])) (snew bu) fun j z hz => by
            obtain ⟨a1, a2, a3, xs, a4, a5⟩ := M13.at_ j z hz
            have n := ne_of_none a4 hu
            exact ⟨by rw [upd_ne n]; exact a2, upd_ne n⟩
          obtain ⟨m1, m2, m3, xs4, m4, m5⟩ := M14.at_ _ y hy
          have lsm : xs4.length ≤ 12 := by
            have h1 := dps_len m5
            rw [List.length_map] at h1
            have h2 : y.rs.length ≤ (rows'.map fun y => y.rs.length).sum := mem_le_sum (f := fun y : Row1 => y.rs.length) (List.mem_of_getElem? hy)
            omega
          have nqu : q1 ≠ u := fun z => by
            rw [z, upd_same] at bu
            cases bu
          refine ⟨y.l, xs4, _, rfl, rfl, m4, small1000 (by omega), ?_⟩
          have hdp : Dp K (upd (upd B5 q1 (.tup (vec.map V.int))) u (.tup [.str tw, .ref q1, .int fc])) (.ref u) (Rd1.d ⟨tw, vec, fc⟩) := .tup (Or.inl (Or.inl upd_same)) (.cons (.str _) (.cons (.tup (Or.inl (Or.inl (by rw [upd_ne nqu]; exact upd_same))) (ints_dps _)) (.cons (.int _) .nil)))
          refine ⟨_, rows'.set k1.toNat { y with rs := y.rs ++ [⟨tw, vec, fc⟩] }, _, _, _, _, _, rfl, (R14.put m2 m3).mono (by omega), M14.put hy m4 hdp, same_tr s5 (same_tr (snew bq) (snew bu)), ?_, ?_, ?_, ?_⟩
          · exact (map_set_same hy (by rfl)).trans e1
          · exact (map_set_same hy (by rfl)).trans e2
          · exact (sum_set hy (by show (y.rs ++ [_]).length = _; rw [List.length_append]; rfl)).trans (by rw [e3])
          · intro z hz
            rcases List.mem_or_eq_of_mem_set hz with h | rfl
            · exact e4 z h
            · refine ⟨(e4 y (List.mem_of_getElem? hy)).1, fun rd hrd => ?_⟩
              rcases List.mem_append.mp hrd with h | h
              · exact (e4 y (List.mem_of_getElem? hy)).2 rd h
              · rw [List.mem_singleton.mp h]
                have hm := List.mem_of_getElem? htw
                refine ⟨?_, hm, hfc.2, hvb⟩
                unfold isRead
                rw [Bool.and_eq_true, Bool.and_eq_true]
                exact ⟨W.names _ hm, decide_eq_true hvl, by rw [decide_eq_false hfc.1]; rfl⟩
        · rintro σ H6 ⟨B5, rows', y6, y8, y9, y10, y11, rfl, R5, M5, s5, e1, e2, e3, e4⟩
          have hrl' : rows'.length = ws.length := by
            have := congrArg List.length e1
            rw [List.length_map] at this
            exact this
          have sc : ∀ {X : Hp}, Same X H6 → X r = none → Same X (cutr H6 r) := fun {X} e n b o h => by
            rw [cutr_ne (ne_of_none h n)]
            exact e b o h
          have s6 := sc R5.s R5.n
          refine ⟨_, rfl, q D (cutr H6 r) H6 (rows'.map Row1.tb) (same_tr s3 (same_tr s4 (same_tr s5 s6))) ((RS.cut R5.ok).mono (by omega)) ⟨_, rows'.map fun y => (y.tb, y.l), by rw [List.map_map]; rfl, s6 _ _ (s5 _ _ B4D), ?_, ?_, ?_⟩ (by rw [List.length_map]; omega) ?_ ?_ ?_ ?_ ?_⟩
          · rw [← e2]
            have pr : ∀ rs : List Row1, (∀ y ∈ rs, y ∈ rows') → Paired (RowAt K (cutr H6 r)) (rs.map fun y => V.ref y.t) (rs.map fun y => (y.tb, y.l)) := by
              intro rs
              induction rs with
              | nil => exact fun _ => .nil
              | cons y rs ih =>
                intro hs
                refine .cons ?_ (ih fun z hz => hs z (List.mem_cons_of_mem _ hz))
                obtain ⟨j, hj⟩ := List.mem_iff_getElem?.mp (hs y List.mem_cons_self)
                obtain ⟨a1, a2, a3, xs, a4, a5⟩ := M5.at_ j y hj
                exact ⟨y.t, xs, rfl, sqt s6 a1, by rw [cutr_ne a3.symm]; exact a4, dpsm s6 _ _ a5⟩
            exact pr rows' fun _ h => h
          · rw [List.map_map]
            refine List.pairwise_map.mpr (List.pairwise_iff_getElem.mpr fun i j hi hj hij e => ?_)
            have := M5.inj i j _ _ (List.getElem?_eq_getElem hi) (List.getElem?_eq_getElem hj) e
            omega
          · intro z
            rw [List.map_map] at z
            obtain ⟨y, hy, e⟩ := List.mem_map.mp z
            obtain ⟨j, hj⟩ := List.mem_iff_getElem?.mp hy
            obtain ⟨_, a2, _⟩ := M5.at_ j y hj
            have e : y.l = D := e
            rw [e, s5 _ _ B4D] at a2
            cases a2
          · have en : (rows'.map Row1.tb).map (·.n) = ws := by
              rw [List.map_map]
              exact e1
            refine ⟨?_, by rw [en]; exact W.nodup, ?_, ?_, ?_⟩
            · intro t ht
              exact W.names _ (by rw [← en]; exact List.mem_map.mpr ⟨t, ht, rfl⟩)
            · rw [List.map_map]
              have : (rows'.map fun y => y.rs.length).sum ≤ 12 := by omega
              exact this
            · intro t ht rd hrd
              obtain ⟨y, hy, rfl⟩ := List.mem_map.mp ht
              exact ((e4 y hy).2 rd hrd).1
            · intro t ht rd hrd
              obtain ⟨y, hy, rfl⟩ := List.mem_map.mp ht
              rw [en]
              exact ((e4 y hy).2 rd hrd).2.1
          · intro t ht
            obtain ⟨y, hy, rfl⟩ := List.mem_map.mp ht
            exact W.oks _ (by rw [← e1]; exact List.mem_map.mpr ⟨y, hy, rfl⟩)
          · intro t ht
            obtain ⟨y, hy, rfl⟩ := List.mem_map.mp ht
            exact ⟨(e4 y hy).1, fun rd hrd => ((e4 y hy).2 rd hrd).2.2.1, fun rd hrd => ((e4 y hy).2 rd hrd).2.2.2⟩
          · have hm : ∀ t ∈ rows'.map Row1.tb, t.n ∈ ws := fun t ht => by
              obtain ⟨y, hy, rfl⟩ := List.mem_map.mp ht
              rw [← e1]
              exact List.mem_map.mpr ⟨y, hy, rfl⟩
            exact W.src.imp (fun h t ht => h _ (hm t ht)) fun h t ht => h _ (hm t ht)
          · rw [List.map_map]
            have : (((rows'.map fun y => y.rs.length).sum : Nat) : Int) ≤ most := by omega
            exact this
    · refine ⟨_, rfl, r, 3, _, rfl, R2.ok, by rw [List.length_map]; show m + 6 ≤ _; omega, by decide, by decide, fun d H3 d0 d1 D => ⟨rfl, _, rfl, ?_⟩⟩
      have R3 : RS r (m + 7) B2 H3 := (R2.dr D).mono (by rw [List.length_map]; show m + 6 + 1 ≤ _; omega)
      have hmem : ∀ x ∈ ws0.take many.toNat, x ∈ W0 := fun x hx => pw.mem_iff.mpr (List.mem_of_mem_take hx)
      have htl : (ws0.take many.toNat).length = many.toNat := by
        rw [List.length_take]
        omega
      refine ite2 (fun _ => ?_) (fun _ => ?_)
      · refine ⟨_, rfl, p2, rfl, ⟨_, Or.inl (Or.inl (R3.s _ _ b2at))⟩, fun D hD => lc_flat (walk_list (K := K) (a := p2) (xs := (ws0.take many.toNat).map V.str)) (fun i => .str (row5 (nth (ws0.take many.toNat) i))) (by rw [List.length_map, htl]; omega) hD (fun H' sm => Or.inl (Or.inl (sm _ _ (R3.s _ _ b2at)))) (fun i H x H' y => yat_same y) ?_ ?_⟩
        · rintro i x H4 H5 hi sm ⟨rfl, hx⟩ R hR
          rw [List.getElem?_map] at hx
          obtain ⟨z, hz, rfl⟩ := Option.map_eq_some_iff.mp hx
          have zz := W0_names z (hmem z (List.mem_of_getElem? hz))
          refine ⟨rfl, _, rfl, 5, rfl, z, rfl, Nat.le_trans zz.2.2.1 (by rw [sizeLine_eq]; decide), _, _, rfl, rfl, Nat.le_trans (Nat.add_le_add_left zz.2.2.2.2.2 _) (by rw [sizeLine_eq]; decide +kernel), ?_⟩
          have r := hR H5 same_refl
          rw [nth_of hz] at r
          exact r
        · intro H4 sm hD4
          rw [List.length_map, nthsf] at hD4
          have R4 := (R3.grow sm).keep hD4 (free_of R3.s hD) (R3.ne hD)
          refine ⟨D, _, (ws0.take many.toNat).map row5, rfl, R4, same_tr s02 (snew (free_of R3.s hD)), upd_same, ⟨by rw [List.length_map, htl], ?_, ?_, ?_, Or.inr fun x hx => ?_⟩⟩
          · rw [List.map_take]
            exact ((pw.map row5).nodup_iff.mp W0_nodup5).sublist (List.take_sublist _ _)
          · intro x hx
            obtain ⟨z, hz, rfl⟩ := List.mem_map.mp hx
            exact (W0_names z (hmem z hz)).2.1
          · intro x hx
            obtain ⟨z, hz, rfl⟩ := List.mem_map.mp hx
            exact (W0_names z (hmem z hz)).2.2.2.2.1
          · obtain ⟨z, hz, rfl⟩ := List.mem_map.mp hx
            exact List.mem_map.mpr ⟨z, hmem z hz, rfl⟩
      · exact ⟨p2, B2, _, rfl, R3, s02, b2at, htl, (pw.nodup_iff.mp W0_nodup).sublist (List.take_sublist _ _), fun x hx => (W0_names x (hmem x hx)).1, fun x hx => (W0_names x (hmem x hx)).2.2.2.1, Or.inl hmem⟩
end
end Fr

namespace Fr
open PySem PySem.Spec PyProof.Rows L2
abbrev s_Llikewise : Stmt := topS 27
theorem sc_Llikewise : FnScope ["_law_rng_here", "_law_rows", "_law_start", "_law_later", "_law_row", "_law_sign", "_law_moved", "_law_word", "_law_number", "_law_some", "_law_target", "_law_vector_here", "_law_factor"] ["_law_rng_here", "_law_rows"] (defScope s_Llikewise) := ⟨rfl, rfl, rfl, by decide +kernel, rfl, by decide +kernel, by decide +kernel⟩
-- slots: 0 _law_rng_here, 1 _law_rows, 2 _law_start, 3 _law_later, 4 _law_row, 5 _law_sign, 6 _law_moved, 7 _law_word, 8 _law_number, 9 _law_some, 10 _law_target, 11 _law_vector_here, 12 _law_factor
def SG : List Str := ["a", "b", "c", "m", "x", "z"]
def st7 (k : Nat) : Str := cutS "abcdefg" none (some (k : Int))
theorem SG_facts : ∀ k ∈ List.range 8, (∀ x ∈ SG, isName (st7 k ++ x) = true ∧ (st7 k).length + x.length ≤ 100) ∧ (SG.map fun x => st7 k ++ x).Nodup ∧ (st7 k ≠ "" → isName (st7 k) = true ∧ st7 k ∉ SG.map fun x => st7 k ++ x) := by decide +kernel
theorem SG_signs : signs (Str.ofString "abcmxz") = SG := by decide +kernel
theorem SG_ok : ∀ x ∈ SG, PyData.strOk x = true := by decide +kernel
theorem perm_strs {N : List Str} {es : List PyData} (h : List.Perm (N.map PyData.str) es) : ∃ S : List Str, es = S.map PyData.str ∧ N.Perm S := by
  have f : ∀ x : PyData, (∃ s, x = .str s) → PyData.str (match x with | .str s => s | _ => Str.empty) = x := fun x ⟨s, e⟩ => by rw [e]
  refine ⟨es.map fun x => match x with | .str s => s | _ => Str.empty, ?_, ?_⟩
  · rw [List.map_map]
    refine ((List.map_congr_left fun x hx => ?_).trans (List.map_id es)).symm
    obtain ⟨s, _, e⟩ := List.mem_map.mp (h.mem_iff.mpr hx)
    exact f x ⟨s, e.symm⟩
  · have z := h.map fun x => match x with | PyData.str s => s | _ => Str.empty
    rw [List.map_map] at z
    exact ((List.Perm.of_eq ((List.map_congr_left fun x _ => rfl).trans (List.map_id N))).symm).trans z
theorem zip_dictS : ∀ (N S : List Str), ((N.map Sum.inr : List Key).zip (S.map V.str)) = dictS (N.zip S)
  | [], S => rfl
  | n :: N, [] => rfl
  | n :: N, s :: S => by
    rw [List.map_cons, List.map_cons, List.zip_cons_cons, zip_dictS N S]
    rfl
theorem merge_dictS {nn : List (Str × Str)} (h : (nn.map (·.1)).Nodup) : mergeK [] (dictS nn) = dictS nn := merge_new nn [] (by simpa using h)
theorem putK_first {a b c : Str} {nn : List (Str × Str)} (h : a ∉ nn.map (·.1)) : putK (dictS ((a, b) :: nn)) (Sum.inr a) (V.str c) = dictS ((a, c) :: nn) := by
  unfold putK
  rw [if_pos (by show ((dictS ((a, b) :: nn)).any fun kv => decide (kv.1 = (Sum.inr a : Key))) = true; unfold dictS; rw [List.map_cons, List.any_cons, decide_eq_true rfl]; rfl)]
  unfold dictS
  rw [List.map_cons, List.map_cons, if_pos rfl, List.map_cons]
  congr 1
  rw [List.map_map]
  refine List.map_congr_left fun p hp => ?_
  show (if (Sum.inr p.1 : Key) = Sum.inr a then _ else _) = _
  rw [if_neg fun z => h (by rw [← Sum.inr.inj z]; exact List.mem_map.mpr ⟨p, hp, rfl⟩)]
theorem pr_snoc {α β : Type} {F : α → β → Prop} {a : α} {b : β} (h : F a b) : ∀ {xs : List α} {ys : List β}, Paired F xs ys → Paired F (xs ++ [a]) (ys ++ [b])
  | [], _, k => by cases k; exact .cons h .nil
  | x :: xs, _, k => by
    cases k with
    | cons k1 k2 => exact .cons k1 (pr_snoc h k2)
theorem rows_at {K : PySem.W.Frag} {B : Hp} {y : Tb × Addr} : ∀ {zs : List V} {tls : List (Tb × Addr)}, Paired (RowAt K B) zs tls → y ∈ tls → ∃ es, B y.2 = some (.lst es)
  | [], _, h, m => by cases h; cases m
  | z :: zs, _, h, m => by
    cases h with
    | cons h1 h2 =>
      rcases List.mem_cons.mp m with rfl | m
      · obtain ⟨u, es, _, _, a3, _⟩ := h1
        exact ⟨es, a3⟩
      · exact rows_at h2 m
theorem ren_all {N S : List Str} (l : N.length ≤ S.length) (n : N.Nodup) (nS : S.Nodup) (ok : ∀ x ∈ S, isName x = true) (few : N.length ≤ 12) : Ren N (N.zip S) := by
  have e1 : (N.zip S).map (·.1) = N := List.map_fst_zip l
  have e2 : (N.zip S).map (·.2) = S.take N.length := by
    clear n nS ok few e1
    induction N generalizing S with
    | nil => rfl
    | cons n N ih =>
      cases S with
      | nil => cases l
      | cons s S =>
        rw [List.zip_cons_cons, List.map_cons, List.length_cons, List.take_succ_cons, ih (by simpa using l)]
  refine ⟨fun q hq => (List.of_mem_zip hq).1, by rw [e1]; exact n, by rw [e2]; exact nS.sublist (List.take_sublist _ _), fun q hq e => by rw [e1]; exact e, fun q hq => ok _ (List.of_mem_zip hq).2, by rw [List.length_zip]; omega⟩
section
variable {P : Program} {w : World} {K : PySem.W.Frag} {mg : Str → Option Value} {base : Heap}
def spLike (K : PySem.W.Frag) : Sp := fun vs H Q _ => ∃ (r lr : Addr) (m : Nat) (B : Hp) (d md : Int) (ts : List Tb), vs = [.ref r, .ref lr] ∧ RS r m B H ∧ LD K B lr (ts.map Tb.d) ∧ Sys1 d md ts ∧ m ≤ 2 ^ 58 ∧
  ∀ p B' H' us, Same B B' → RS r (m + 20) B' H' → RowsL K B' p us → Sys1 d md us → us.length = ts.length → Q (.ref p) H'
theorem ok_like {f : Addr} {fd : FuncData} (F : Fun K "_law_likewise" "_law_likewise" s_Llikewise f fd) (T : Txt mg) (zd : mg "dict" = none) (c_Ldraw : C8.Cal P w K mg base 1 "_law_draw" spDraw []) (c_Lmixed : C8.Cal P w K mg base 2 "_law_mixed" (spMixed K) []) : FnOk P w K mg base CX0 3 f fd ["_law_rng_here", "_law_rows"] (spLike K) := by
  refine F.ok sc_Llikewise (fun vs H Q E h => ?_) (fun cdv A outer sh H vs Q E hr h => ?_)
  · obtain ⟨r, lr, m, B, d, md, ts, rfl, _⟩ := h
    rfl
  · obtain ⟨r, lr, m, B, d, md, ts, rfl, R, hlr, O, hm, q⟩ := h
    have hu := hu_of hr
    refine ⟨_, (pss_cons (ps_set (i := 2) sc_Llikewise.nd rfl (by first | exact Or.inl rfl | exact Or.inr rfl) (pe_slice sl_str pe_str po_none (po_some (C8.pe_c c_Ldraw hr (by decide) (by rfl) (pa_cons (pv 0) (pa_cons pe_int pa_nil))))))
  (pss_cons (ps_set (i := 3) sc_Llikewise.nd rfl (by first | exact Or.inl rfl | exact Or.inr rfl) (pe_dictZip rfl (by rfl) zd (by rfl) T.b_zip (pa_cons (pe_lc (own := [("_law_row", 4)]) (g := gName 4) (tt := tYes) (by rfl) sc_Llikewise.nd (pi_list (pv 1)) (blkOk_by (N := ["_law_rng_here", "_law_rows", "_law_start", "_law_later", "_law_row", "_law_sign", "_law_moved", "_law_word", "_law_number", "_law_some", "_law_target", "_law_vector_here", "_law_factor"]) (sc := defScope s_Llikewise) (by decide +kernel)) (fun _ _ _ _ _ => (pg_name (i := 4) sc_Llikewise.nd rfl (by first | exact Or.inl rfl | exact Or.inr rfl))) (fun _ _ _ _ _ => pts_nil) (fun _ _ _ _ _ => (pe_ix (r := rIxT K) ix_tup (pv 4) pe_int (fun _ _ => rfl)))) (pa_cons (pe_lc (own := [("_law_sign", 5)]) (g := gName 5) (tt := tYes) (by rfl) sc_Llikewise.nd (pi_list (C8.pe_c c_Lmixed hr (by decide) (by rfl) (pa_cons (pv 0) (pa_cons (pe_callTy (call_listS rfl) (by rfl) T.b_list (by decide +kernel) (pa_cons pe_str pa_nil)) pa_nil)))) (blkOk_by (N := ["_law_rng_here", "_law_rows", "_law_start", "_law_later", "_law_row", "_law_sign", "_law_moved", "_law_word", "_law_number", "_law_some", "_law_target", "_law_vector_here", "_law_factor"]) (sc := defScope s_Llikewise) (by decide +kernel)) (fun _ _ _ _ _ => (pg_name (i := 5) sc_Llikewise.nd rfl (by first | exact Or.inl rfl | exact Or.inr rfl))) (fun _ _ _ _ _ => pts_nil) (fun _ _ _ _ _ => (pe_op op_add_str (pv 2) (pv 5)))) pa_nil))))
  (pss_cons (ps_csq (ps_if (PW.pt (pw_and (pt_cmpR op_ne (pv 2) pe_str (nomark _)) (pw_and1 (pt_cmpR op_eq (C8.pe_c c_Ldraw hr (by decide) (by rfl) (pa_cons (pv 0) (pa_cons pe_int pa_nil))) pe_int (nomark _)))))
    (pss_one (ps_dput hu (pv 3) (pe_ix ix_tup (pe_ix ix_list (pv 1) pe_int (fun _ _ => rfl)) pe_int (fun _ _ => rfl)) (pv 2) rfl))
    pss_nil))
  (pss_cons (ps_set (i := 6) sc_Llikewise.nd rfl (by first | exact Or.inl rfl | exact Or.inr rfl) (pe_lst pa_nil))
  (pss_cons (ps_for PassesOwn.never rfl (pi_list (pv 1)) (pg_tup rfl (pgs_cons (pg_name (i := 7) sc_Llikewise.nd rfl (by first | exact Or.inl rfl | exact Or.inr rfl)) (pgs_cons (pg_name (i := 8) sc_Llikewise.nd rfl (by first | exact Or.inl rfl | exact Or.inr rfl)) (pgs_cons (pg_name (i := 9) sc_Llikewise.nd rfl (by first | exact Or.inl rfl | exact Or.inr rfl)) pgs_nil))))
    (pss_one (ps_expr (pe_bm PySem.F.plainAttrs_list PySem.F.slot_list_append PySem.F.type_list_append mt_append (pv 6) (pa_cons (pe_tup (pa_cons (pe_dget hu (pv 3) (pv 7) (fun _ _ => rfl)) (pa_cons (pv 8) (pa_cons (pe_lc (own := [("_law_target", 10), ("_law_vector_here", 11), ("_law_factor", 12)]) (g := gTup K 3 (gCons (gName 10) (gCons (gName 11) (gCons (gName 12) gNil)))) (tt := tYes) (by rfl) sc_Llikewise.nd (pi_list (pv 9)) (blkOk_by (N := ["_law_rng_here", "_law_rows", "_law_start", "_law_later", "_law_row", "_law_sign", "_law_moved", "_law_word", "_law_number", "_law_some", "_law_target", "_law_vector_here", "_law_factor"]) (sc := defScope s_Llikewise) (by decide +kernel)) (fun _ _ _ _ _ => (pg_tup rfl (pgs_cons (pg_name (i := 10) sc_Llikewise.nd rfl (by first | exact Or.inl rfl | exact Or.inr rfl)) (pgs_cons (pg_name (i := 11) sc_Llikewise.nd rfl (by first | exact Or.inl rfl | exact Or.inr rfl)) (pgs_cons (pg_name (i := 12) sc_Llikewise.nd rfl (by first | exact Or.inl rfl | exact Or.inr rfl)) pgs_nil))))) (fun _ _ _ _ _ => pts_nil) (fun _ _ _ _ _ => (pe_tup (pa_cons (pe_dget hu (pv 3) (pv 10) (fun _ _ => rfl)) (pa_cons (pv 11) (pa_cons (pv 12) pa_nil)))))) pa_nil)))) pa_nil)))))
  (pss_one (ps_ret (pv 6)))))))), ?_⟩
    have t6 := O.l6
    have t1 := O.l1
    -- start
    refine ⟨_, rfl, r, 8, _, rfl, R.ok, by omega, by decide, by decide, fun d1 H1 d10 d11 D1 => ?_⟩
    have R1 := R.dr D1
    obtain ⟨k, rfl⟩ : ∃ k : Nat, d1 = (k : Int) := ⟨d1.toNat, by omega⟩
    obtain ⟨pf, pn, ps⟩ := SG_facts k (List.mem_range.mpr (by omega))
    refine ⟨(k : Int), rfl, _, rfl, by decide +kernel, ?_⟩
    -- the old names
    obtain ⟨xs, hx, hxd⟩ := id hlr
    have xl : xs.length = ts.length := by rw [dps_len hxd, List.length_map]
    refine ⟨_, rfl, lr, rfl, ⟨_, Or.inl (Or.inl (R1.s _ _ hx))⟩, fun D hD => ?_⟩
    refine lc_it (walk_list (K := K) (a := lr) (xs := xs)) (fun i H' => H' D = some (.lst (((ts.map (·.n)).take i).map V.str)) ∧ Same H1 H') ⟨upd_same, snew hD⟩ (fun i H' _ ⟨_, b⟩ => Or.inl (Or.inl (b _ _ (R1.s _ _ hx)))) ?_ ?_
    · rintro i y _ Hi hi ⟨b1, b2⟩ ⟨rfl, hy⟩
      obtain ⟨tb, a, l, ys, htb, rfl, hta, _⟩ := tb_at (dpsm (same_tr R1.s b2) _ _ hxd) hy
      refine ⟨rfl, yes_if ?_⟩
      refine ⟨_, rfl, a, _, 0, _, rfl, rfl, hta, rfl, _, b1, small1000 (by rw [List.length_map, List.length_take, List.length_map]; omega), ?_, swrite b2 hD⟩
      rw [upd_same, List.take_add_one, List.getElem?_map, htb, List.map_append]
      rfl
    rintro H2 ⟨b1, b2⟩
    rw [xl, List.take_of_length_le (by rw [List.length_map]; exact Nat.le_refl _)] at b1
    have bD := free_of R1.s hD
    have rD := R1.ne hD
    have R2 := (R1.grow b2).keep b1 bD rD
    have s2 : Same B (upd B D (.lst ((ts.map (·.n)).map V.str))) := snew bD
    have D2 : (upd B D (.lst ((ts.map (·.n)).map V.str))) D = some (.lst ((ts.map (·.n)).map V.str)) := upd_same
    generalize upd B D (.lst ((ts.map (·.n)).map V.str)) = B2 at R2 s2 D2
    clear b1 b2 bD hD R1 D1 R
    -- the signs
    refine ⟨_, rfl, Str.ofString "abcmxz", rfl, by decide +kernel, fun l hl => ?_⟩
    have R3 := (R2.new (o := .lst ((signs (Str.ofString "abcmxz")).map V.str)) hl).keep upd_same (free_of R2.s hl) (R2.ne hl)
    have s3 := same_tr s2 (snew (o := .lst ((signs (Str.ofString "abcmxz")).map V.str)) (free_of R2.s hl))
    have D3 := snew (o := .lst ((signs (Str.ofString "abcmxz")).map V.str)) (free_of R2.s hl) _ _ D2
    have l3 : (upd B2 l (.lst ((signs (Str.ofString "abcmxz")).map V.str))) l = some (.lst (SG.map V.str)) := by rw [← SG_signs]; exact upd_same
    generalize upd B2 l (.lst ((signs (Str.ofString "abcmxz")).map V.str)) = B3 at R3 s3 D3 l3
    refine ⟨r, l, _, B3, _, SG.map PyData.str, rfl, R3, Or.inl (Or.inl l3), strs_dps SG, fun d hd => ?_, by decide, by omega, fun p H4 ys es bp rp perm dd R4 => ?_⟩
    · obtain ⟨x, hx, rfl⟩ := List.mem_map.mp hd
      exact ⟨by simpa [PyData.canLay0] using SG_ok x hx, by simp [PyData.depth]⟩
    obtain ⟨ss, rfl, pss⟩ := perm_strs perm
    obtain rfl := dps_strs dd
    have s4 := same_tr s3 (snew (o := .lst (ss.map V.str)) bp)
    have D4 := snew (o := .lst (ss.map V.str)) bp _ _ D3
    have p4 : (upd B3 p (.lst (ss.map V.str))) p = some (.lst (ss.map V.str)) := upd_same
    generalize upd B3 p (.lst (ss.map V.str)) = B4 at R4 s4 D4 p4
    have hmem : ∀ x ∈ ss, x ∈ SG := fun x hx => pss.mem_iff.mpr hx
    have sl : ss.length = 6 := pss.length_eq.symm
    clear R3 s3 D3 l3 R2 s2 D2 hl bp rp perm dd
    refine ⟨p, rfl, ⟨_, Or.inl (Or.inl (R4.s _ _ p4))⟩, fun G hG => lc_flat (walk_list (K := K) (a := p) (xs := ss.map V.str)) (fun i => .str (st7 k ++ nth ss i)) (by rw [List.length_map]; omega) hG (fun H' sm => Or.inl (Or.inl (sm _ _ (R4.s _ _ p4)))) (fun i H x H' y => yat_same y) ?_ ?_⟩
    · rintro i x H6 H7 hi sm ⟨rfl, hx⟩ R hR
      rw [List.getElem?_map] at hx
      obtain ⟨z, hz, rfl⟩ := Option.map_eq_some_iff.mp hx
      have zz := pf z (hmem z (List.mem_of_getElem? hz))
      refine ⟨rfl, _, rfl, _, rfl, _, _, rfl, rfl, Nat.le_trans zz.2 (by rw [sizeLine_eq]; decide), ?_⟩
      have r := hR H7 same_refl
      rw [nth_of hz] at r
      exact r
    intro H6 sm hG6
    rw [List.length_map, nthsf ss (fun x => st7 k ++ x)] at hG6
    have R6 := R4.grow sm
    have D6 := R6.s _ _ D4
    obtain ⟨S, hS⟩ : ∃ S, S = ss.map fun x => st7 k ++ x := ⟨_, rfl⟩
    rw [← hS] at hG6
    have nS : S.Nodup := by
      rw [hS]
      exact ((pss.map fun x => st7 k ++ x).nodup_iff).mp pn
    have okS : ∀ x ∈ S, isName x = true := fun x hx => by
      rw [hS] at hx
      obtain ⟨y, hy, rfl⟩ := List.mem_map.mp hx
      exact (pf y (hmem y hy)).1
    have lS : S.length = 6 := by rw [hS, List.length_map]; exact sl
    have stS : st7 k ≠ "" → isName (st7 k) = true ∧ st7 k ∉ S := fun h => ⟨(ps h).1, fun z => (ps h).2 (by
      rw [hS] at z
      exact (pss.map fun x => st7 k ++ x).mem_iff.mpr z)⟩
    clear hS hmem pf pn ps sm hG pss
    -- the dict
    have eN : (ts.map (·.n)).map V.str = ((ts.map (·.n)).map (Sum.inr : Str → Key)).map kV := by
      rw [List.map_map, List.map_map, List.map_map]
      rfl
    refine ⟨D, G, (ts.map (·.n)).map Sum.inr, S.map V.str, rfl, Or.inl (Or.inl (by rw [← eN]; exact D6)), Or.inl (Or.inl hG6), fun dl hdl => ?_⟩
    have kN : ((((ts.map (·.n)).zip S)).map (·.1)) = ts.map (·.n) := List.map_fst_zip (by rw [List.length_map]; omega)
    rw [zip_dictS, merge_dictS (by rw [kN]; exact O.ok.nodup)]
    have R7 := R6.new (o := .dK (dictS ((ts.map (·.n)).zip S))) hdl
    have dl7 : (upd H6 dl (.dK (dictS ((ts.map (·.n)).zip S)))) dl = some (.dK (dictS ((ts.map (·.n)).zip S))) := upd_same
    have bdl := free_of R6.s hdl
    have rdl := R6.ne hdl
    generalize upd H6 dl (.dK (dictS ((ts.map (·.n)).zip S))) = H7 at R7 dl7
    clear R6 D6 hG6 hdl R4 D4 p4
    -- a name that begins the others
    refine ⟨fun σ H' => ∃ nn : List (Str × Str), σ = [some (.ref r), some (.ref lr), some (.str (st7 k)), some (.ref dl), none, none, none, none, none, none, none, none, none] ∧ RS r (m + 8) B4 H' ∧ H' dl = some (.dK (dictS nn)) ∧ Ren (ts.map (·.n)) nn ∧ nn.map (·.1) = ts.map (·.n), ?_, ?_⟩
    · rintro σ H8 ⟨nn, rfl, R8, dl8, Rn, kn⟩
      have R9 := R8.keep dl8 bdl rdl
      have s9 := same_tr s4 (snew (o := .dK (dictS nn)) bdl)
      have dl9 : (upd B4 dl (.dK (dictS nn))) dl = some (.dK (dictS nn)) := upd_same
      generalize upd B4 dl (.dK (dictS nn)) = B9 at R9 s9 dl9
      have hDg : ∀ {H' : Hp} {x : Str}, Same B9 H' → x ∈ ts.map (·.n) → DGet H' dl (.str x) (some (.str (rnm nn x))) := fun {H'} {x} e hx => by
        have g := DGet.k (k := Sum.inr x) (e _ _ dl9)
        rw [← kn] at hx
        obtain ⟨p, hp, rfl⟩ := List.mem_map.mp hx
        rw [valS, look_of Rn.kd hp, ← rnm_in Rn.kd hp] at g
        exact g
      clear R8 dl8 bdl stS nS okS lS
      refine ⟨Nat.zero_le _, fun Tt hTt => ?_⟩
      have bT := free_of R9.s hTt
      have rT := R9.ne hTt
      have RT := R9.new (o := .lst []) hTt
      refine ⟨_, rfl, lr, rfl, ⟨_, Or.inl (Or.inl (RT.s _ _ (s9 _ _ hx)))⟩, ?_⟩
      refine for_it (walk_list (K := K) (a := lr) (xs := xs)) (fun i σ H' => ∃ y7 y8 y9, σ = [some (.ref r), some (.ref lr), some (.str (st7 k)), some (.ref dl), none, none, some (.ref Tt), y7, y8, y9, none, none, none] ∧ ∃ (Bq : Hp) (zs : List V), Same B9 Bq ∧ Bq Tt = none ∧ RS r (m + 8) Bq H' ∧ H' Tt = some (.lst zs) ∧ ∃ tls : List (Tb × Addr), tls.map (·.1) = (ts.take i).map (rnT nn) ∧ Paired (RowAt K Bq) zs tls ∧ (tls.map (·.2)).Nodup)
        ⟨none, none, none, rfl, B9, [], same_refl, bT, RT, upd_same, [], rfl, .nil, List.nodup_nil⟩ (fun i σ H' _ ⟨_, _, _, _, Bq, _, b1, _, b3, _⟩ => Or.inl (Or.inl (b3.s _ _ (b1 _ _ (s9 _ _ hx))))) ?_ ?_
      · rintro i y σ _ H2 hi ⟨y7, y8, y9, rfl, Bq, zs, b1, b2, b3, b4, tls, f1, f2, f3⟩ ⟨rfl, hy⟩
        obtain ⟨tb, a, l, os, htb, rfl, hta, hlo, hdo⟩ := tb_at (dpsm (same_tr s9 b1) _ _ hxd) hy
        have htm := List.mem_of_getElem? htb
        have ol : os.length = tb.rs.length := by rw [dps_len hdo, List.length_map]
        have o12 := few_reads O.ok htm
        refine ⟨a, _, rfl, sqt b3.s hta, rfl, _, _, rfl, _, _, rfl, _, _, rfl, rfl, ?_⟩
        refine ⟨_, rfl, Or.inl ⟨rfl, _, Or.inl (Or.inl b4)⟩, _, rfl, _, rfl, dl, _, rfl, hDg (same_tr b1 b3.s) (List.mem_map.mpr ⟨tb, htm, rfl⟩), _, rfl, _, rfl, l, rfl, ⟨_, sql b3.s hlo⟩, fun E hE => ?_⟩
        have bE := free_of b3.s hE
        have nET : E ≠ Tt := (ne_of_none b4 hE).symm
        have rE0 := b3.ne hE
        refine lc_it (walk_list (K := K) (a := l) (xs := os)) (fun j H' => ∃ (B2 : Hp) (es : List V), Same Bq B2 ∧ B2 E = none ∧ B2 Tt = none ∧ RS r (m + 8) B2 H' ∧ H' Tt = some (.lst zs) ∧ H' E = some (.lst es) ∧ DpAll K B2 es (((tb.rs.take j).map (rnR nn)).map Rd1.d))
          ⟨Bq, [], same_refl, bE, b2, b3.new hE, snew hE _ _ b4, upd_same, .nil⟩ (fun j H' _ ⟨B2, es, d1, _, _, d4, _⟩ => sql d4.s (sql d1 hlo)) ?_ ?_
        · rintro j y _ Hj hj ⟨B2, es, d1, d2, d3, d4, d5, d6, d7⟩ ⟨rfl, hy⟩
          obtain ⟨rd, ra, rb, e3, rfl, _, f3, f4⟩ := rd_at (dpsm d1 _ _ hdo) hy
          have hrm := List.mem_of_getElem? e3
          refine ⟨ra, _, rfl, sqt d4.s f3, rfl, _, _, rfl, _, _, rfl, _, _, rfl, rfl, rfl, yes_if ?_⟩
          refine ⟨_, rfl, _, rfl, dl, _, rfl, hDg (same_tr b1 (same_tr d1 d4.s)) (O.ok.here tb htm rd hrm), _, rfl, _, rfl, (by show 3 ≤ sizeLine; decide), fun u hu2 => ?_⟩
          have bu := free_of d4.s hu2
          have nuE : E ≠ u := ne_of_none d6 hu2
          have nuT : Tt ≠ u := ne_of_none d5 hu2
          have R6 := (d4.new (o := .tup [.str (rnm nn rd.t), .ref rb, .int rd.f]) hu2).keep upd_same bu (d4.ne hu2)
          have cE : (upd B2 u (.tup [.str (rnm nn rd.t), .ref rb, .int rd.f])) E = none := by rw [upd_ne nuE]; exact d2
          have cT : (upd B2 u (.tup [.str (rnm nn rd.t), .ref rb, .int rd.f])) Tt = none := by rw [upd_ne nuT]; exact d3
          have rE : r ≠ E := rE0
          refine ⟨es, by rw [upd_ne nuE]; exact d6, small1000 (by rw [dps_len d7, List.length_map, List.length_map, List.length_take]; omega), _, es ++ [.ref u], same_tr d1 (snew bu), cE, cT, R6.put cE rE, by rw [upd_ne nET.symm, upd_ne nuT]; exact d5, upd_same, ?_⟩
          rw [List.take_add_one, e3, List.map_append, List.map_append]
          exact dps_snoc (dpsm (snew bu) _ _ d7) (.tup (Or.inl (Or.inl upd_same)) (.cons (.str _) (.cons (.tup (sqt (snew bu) f4) (ints_dps _)) (.cons (.int _) .nil))))
        · rintro H4 ⟨B2, es, d1, d2, d3, d4, d5, d6, d7⟩
          rw [ol, List.take_length] at d7
          have rE : r ≠ E := rE0
          have K4 := d4.keep d6 d2 rE
          have d7' := dpsm (snew (o := .lst es) d2) _ _ d7
          have E4 : (upd B2 E (.lst es)) E = some (.lst es) := upd_same
          have T4 : (upd B2 E (.lst es)) Tt = none := by rw [upd_ne nET.symm]; exact d3
          have s4' := same_tr d1 (snew (o := .lst es) d2)
          generalize upd B2 E (.lst es) = B5 at K4 d7' E4 T4 s4'
          refine ⟨(by show 3 ≤ sizeLine; decide), fun u hu2 => ?_⟩
          have bu := free_of K4.s hu2
          have nuT : Tt ≠ u := ne_of_none d5 hu2
          have R6 := (K4.new (o := .tup [.str (rnm nn tb.n), .int tb.c, .ref E]) hu2).keep upd_same bu (K4.ne hu2)
          have cT : (upd B5 u (.tup [.str (rnm nn tb.n), .int tb.c, .ref E])) Tt = none := by rw [upd_ne nuT]; exact T4
          have zl : zs.length ≤ 6 := by
            have e := congrArg List.length f1
            rw [List.length_map, List.length_map, List.length_take] at e
            rw [Paired.length f2]
            omega
          refine ⟨Tt, zs, _, rfl, rfl, by rw [upd_ne nuT]; exact d5, Nat.le_of_lt (small1000 (by omega)), _, _, _, rfl, _, zs ++ [.ref u], same_tr b1 (same_tr s4' (snew bu)), cT, R6.put cT rT, upd_same, tls ++ [(rnT nn tb, E)], ?_, ?_, ?_⟩
          · rw [List.take_add_one, htb, List.map_append, List.map_append, f1]
            rfl
          · exact pr_snoc ⟨u, es, rfl, Or.inl (Or.inl upd_same), snew bu _ _ E4, dpsm (snew bu) _ _ d7'⟩ (_root_.L2.Paired.mapP f2 fun _ _ h => h.mono (same_tr s4' (snew bu)))
          · rw [List.map_append, List.nodup_append]
            refine ⟨f3, by simp, fun a ha b hb e => ?_⟩
            rw [List.mem_singleton.mp hb] at e
            obtain ⟨y, hy, rfl⟩ := List.mem_map.mp ha
            obtain ⟨es2, he2⟩ := rows_at f2 hy
            rw [e] at he2
            have e3 : Bq E = some (.lst es2) := he2
            rw [bE] at e3
            cases e3
      · rintro σ H2 ⟨y7, y8, y9, rfl, Bq, zs, b1, b2, b3, b4, tls, f1, f2, f3⟩
        rw [xl, List.take_length] at f1
        refine ⟨_, rfl, ?_⟩
        exact q Tt (upd Bq Tt (.lst zs)) H2 (ts.map (rnT nn)) (same_tr s9 (same_tr b1 (snew b2))) ((b3.keep b4 b2 rT).mono (by omega)) ⟨zs, tls, f1, upd_same, _root_.L2.Paired.mapP f2 fun _ _ h => h.mono (snew b2), f3, fun z => by
          obtain ⟨y, hy, e⟩ := List.mem_map.mp z
          obtain ⟨es, he⟩ := rows_at f2 hy
          rw [e, b2] at he
          cases he⟩ (Rn.sys O) (List.length_map _)
    · have R0 : Ren (ts.map (·.n)) ((ts.map (·.n)).zip S) := ren_all (by rw [List.length_map]; omega) O.ok.nodup nS okS (by rw [List.length_map]; omega)
      have lg : m + 1 + (SG.map PyData.str).length = m + 7 := rfl
      rw [lg] at R7
      refine ⟨_, rfl, rfl, _, rfl, ite2 (fun h => ?_) (fun h => ?_)⟩
      · have hne : st7 k ≠ "" := fun z => by
          have e : (!decide (V.str (st7 k) = V.str (Str.ofString ""))) = true := h
          rw [z, decide_eq_true rfl] at e
          cases e
        refine ⟨_, rfl, r, 2, _, rfl, R7.ok, by omega, by decide, by decide, fun d2 H8 d20 d21 D8 => ⟨rfl, _, rfl, ite2 (fun h2 => ?_) (fun h2 => ?_)⟩⟩
        · have R8 := R7.dr D8
          have dl8 : H8 dl = some (.dK (dictS ((ts.map (·.n)).zip S))) := by rw [D8.ne _ rdl.symm]; exact dl7
          obtain ⟨v0, e0⟩ : ∃ v0, xs[0]? = some v0 := ⟨xs[0]'(by omega), List.getElem?_eq_getElem _⟩
          obtain ⟨t0, a0, l0, _, f0, rfl, g0, _⟩ := tb_at (dpsm (same_tr s4 R8.s) _ _ hxd) e0
          refine ⟨_, rfl, _, rfl, _, rfl, lr, xs, 0, _, rfl, rfl, Or.inl (Or.inl (R8.s _ _ (s4 _ _ hx))), atI_nat (j := 0) e0, a0, _, 0, _, rfl, rfl, g0, rfl, dl, _, rfl, DPut.k (k := Sum.inr t0.n) dl8 (small1000 (by unfold dictS; rw [List.length_map, List.length_zip, List.length_map]; omega)), ?_⟩
          obtain ⟨tr, etr⟩ : ∃ tr, ts = t0 :: tr := by
            cases hts : ts with
            | nil => rw [hts] at f0; cases f0
            | cons t tr => rw [hts] at f0; cases f0; exact ⟨tr, rfl⟩
          obtain ⟨s0, S', eS⟩ : ∃ s0 S', S = s0 :: S' := by
            cases hS : S with
            | nil => rw [hS] at lS; cases lS
            | cons a b => exact ⟨a, b, rfl⟩
          have nd := O.ok.nodup
          have eput : putK (dictS ((ts.map (·.n)).zip S)) (Sum.inr t0.n) (V.str (st7 k)) = dictS ((ts.map (·.n)).zip (st7 k :: S')) := by
            rw [etr, eS, List.map_cons, List.zip_cons_cons, List.zip_cons_cons]
            refine putK_first fun z => ?_
            rw [etr, List.map_cons, List.nodup_cons] at nd
            obtain ⟨p, hp, e⟩ := List.mem_map.mp z
            exact nd.1 (by rw [← e]; exact (List.of_mem_zip hp).1)
          obtain ⟨st1, st2⟩ := stS hne
          rw [eS] at nS okS st2 lS
          have lS' : (st7 k :: S').length = 6 := by rw [List.length_cons] at lS ⊢; exact lS
          rw [List.nodup_cons] at nS
          rw [List.mem_cons, not_or] at st2
          have R1' : Ren (ts.map (·.n)) ((ts.map (·.n)).zip (st7 k :: S')) := ren_all (by rw [List.length_map]; omega) nd (List.nodup_cons.mpr ⟨st2.2, nS.2⟩) (fun x hx => (List.mem_cons.mp hx).elim (fun e => e ▸ st1) fun h => okS x (List.mem_cons_of_mem _ h)) (by rw [List.length_map]; omega)
          refine ⟨_, rfl, R8.put bdl rdl, by rw [← eput]; exact upd_same, R1', List.map_fst_zip (by rw [List.length_map]; omega)⟩
        · exact ⟨_, rfl, R7.dr D8, by rw [D8.ne _ rdl.symm]; exact dl7, R0, kN⟩
      · exact ⟨_, rfl, R7.mono (by omega), dl7, R0, kN⟩
end
end Fr

namespace Fr
open PySem PySem.Spec PyProof.Rows L2
abbrev s_Lchanged : Stmt := topS 26
theorem sc_Lchanged : FnScope ["_law_rng_here", "_law_dims", "_law_rows", "_law_word", "_law_number", "_law_some", "_law_way", "_law_target", "_law_vector_here", "_law_factor", "_law_moved", "_law_last"] ["_law_rng_here", "_law_dims", "_law_rows"] (defScope s_Lchanged) := ⟨rfl, rfl, rfl, by decide +kernel, rfl, by decide +kernel, by decide +kernel⟩
-- slots: 0 _law_rng_here, 1 _law_dims, 2 _law_rows, 3 _law_word, 4 _law_number, 5 _law_some, 6 _law_way, 7 _law_target, 8 _law_vector_here, 9 _law_factor, 10 _law_moved, 11 _law_last
theorem perm_of_map {α β : Type} {f : α → β} {us es : List β} (h : us.Perm es) : ∀ {xs : List α}, us = xs.map f → ∃ ys, es = ys.map f ∧ xs.Perm ys := by
  induction h with
  | nil =>
    intro xs e
    cases xs with
    | nil => exact ⟨[], rfl, .refl _⟩
    | cons x xs => cases e
  | cons a _ ih =>
    intro xs e
    cases xs with
    | nil => cases e
    | cons x xs =>
      rw [List.map_cons] at e
      injection e with e1 e2
      obtain ⟨ys, e3, p⟩ := ih e2
      exact ⟨x :: ys, by rw [List.map_cons, e3, e1], p.cons x⟩
  | swap a b l =>
    intro xs e
    cases xs with
    | nil => cases e
    | cons x xs =>
      cases xs with
      | nil => cases e
      | cons y xs =>
        rw [List.map_cons, List.map_cons] at e
        injection e with e1 e2
        injection e2 with e2 e3
        exact ⟨y :: x :: xs, by rw [List.map_cons, List.map_cons, e1, e2, e3], .swap _ _ _⟩
  | trans _ _ ih1 ih2 =>
    intro xs e
    obtain ⟨ys, e1, p1⟩ := ih1 e
    obtain ⟨zs, e2, p2⟩ := ih2 e1
    exact ⟨zs, e2, p1.trans p2⟩
theorem and_t {a b : Bool} (h : b = true) : (a && b) = a := by rw [h, Bool.and_true]
/-- one table otherwise -/
theorem tabEq_one {d : Int} {ts us tr : List Tb} {t t' : Tb} (pt : ts.Perm (t :: tr)) (pu : us.Perm (t' :: tr)) (O : OkT d ts) (n : t'.n = t.n) (sh : SeqAt.shaped t.k = true) : tabEq (srt us) (srt ts) = PyData.eqv t'.k t.k := by
  have nt : ((srt ts).map (·.n)).Nodup := ((srt_perm ts).map (·.n)).nodup_iff.mpr O.nodup
  have mt : ∀ u, u ∈ t :: tr → u ∈ srt ts := fun u hu => (srt_perm ts).mem_iff.mpr (pt.mem_iff.mpr hu)
  unfold tabEq
  have hl : (srt us).length = (srt ts).length := by rw [(srt_perm us).length_eq, (srt_perm ts).length_eq, pu.length_eq, pt.length_eq]; rfl
  rw [hl, beq_self_eq_true, Bool.true_and]
  refine ((srt_perm us).trans pu).all_eq.trans ?_
  rw [List.all_cons, find_nodup nt (mt t List.mem_cons_self) n.symm]
  refine and_t (List.all_eq_true.mpr fun u hu => ?_)
  rw [find_nodup nt (mt u (List.mem_cons_of_mem _ hu)) rfl]
  have hm : u ∈ ts := pt.mem_iff.mpr (List.mem_cons_of_mem _ hu)
  exact SeqAt.eqv_refl _ (SeqAt.canLay_of_shaped ((lay_k O hm).shaped (by decide)))
theorem okT_one {d : Int} {ts tr : List Tb} {t t' : Tb} (pt : ts.Perm (t :: tr)) (O : OkT d ts) (n : t'.n = t.n) (l : t'.rs.length = t.rs.length) (h : ∀ r ∈ t'.rs, isRead d r = true ∧ r.t ∈ ts.map (·.n)) : OkT d (tr ++ [t']) := by
  have O2 := O.perm pt
  have en : (t' :: tr).map (·.n) = (t :: tr).map (·.n) := by rw [List.map_cons, List.map_cons, n]
  have hm : ∀ x, x ∈ (t :: tr).map (·.n) ↔ x ∈ (t' :: tr).map (·.n) := fun x => by rw [en]
  refine OkT.perm (ts := t' :: tr) (List.perm_append_comm (l₁ := [t'])) ⟨fun u hu => ?_, by rw [en]; exact O2.nodup, ?_, fun u hu r hr => ?_, fun u hu r hr => ?_⟩
  · rcases List.mem_cons.mp hu with rfl | hu
    · rw [n]
      exact O2.names t List.mem_cons_self
    · exact O2.names u (List.mem_cons_of_mem _ hu)
  · have := O2.few
    rw [List.map_cons, List.sum_cons] at this ⊢
    rw [l]
    exact this
  · rcases List.mem_cons.mp hu with rfl | hu
    · exact (h r hr).1
    · exact O2.reads u (List.mem_cons_of_mem _ hu) r hr
  · rw [← hm]
    rcases List.mem_cons.mp hu with rfl | hu
    · exact (pt.map (·.n)).mem_iff.mp (h r hr).2
    · exact O2.here u (List.mem_cons_of_mem _ hu) r hr
theorem eqv_k (t t' : Tb) : PyData.eqv t'.k t.k = (decide (t'.c = t.c) && PyData.eqvAll (t'.rs.map Rd1.d) (t.rs.map Rd1.d)) := by
  unfold Tb.k
  simp only [PyData.eqv, PyData.eqvAll, Bool.and_true]
  rfl
theorem cut_tl (x : V) (xs : List V) : cutV (x :: xs) (some 1) none = xs := by
  have h1 : HT.sIx (x :: xs).length 0 (some 1) = 1 := by
    unfold HT.sIx
    rw [List.length_cons]
    simp
  have h2 : HT.sIx (x :: xs).length (x :: xs).length none = (x :: xs).length := rfl
  unfold cutV
  rw [h1, h2, List.drop_succ_cons, List.drop_zero, List.take_of_length_le (by rw [List.length_cons]; omega)]
theorem RS.nk {r p : Addr} {m : Nat} {B H : Hp} {o : HO} (h : RS r m B H) (e : H p = none) : RS r m (upd B p o) (upd H p o) := (h.new e).keep upd_same (free_of h.s e) (h.ne e)
theorem dps_rev {K : PySem.W.Frag} {H : Hp} : ∀ {vs : List V} {ds : List PyData}, DpAll K H vs ds → DpAll K H vs.reverse ds.reverse
  | [], _, h => by cases h; exact .nil
  | v :: vs, _, h => by
    cases h with
    | cons h1 h2 =>
      rw [List.reverse_cons, List.reverse_cons]
      exact dps_snoc (dps_rev h2) h1
theorem cut_whole1 {x : V} {xs : List V} : ¬ (HT.sIx (x :: xs).length 0 (some 1) = 0 ∧ HT.sIx (x :: xs).length (x :: xs).length none = (x :: xs).length) := by
  intro h
  have h1 : HT.sIx (x :: xs).length 0 (some 1) = 1 := by
    unfold HT.sIx
    rw [List.length_cons]
    simp
  rw [h1] at h
  exact absurd h.1 (by decide)
section
variable {P : Program} {w : World} {K : PySem.W.Frag} {mg : Str → Option Value} {base : Heap}
def spChanged (K : PySem.W.Frag) : Sp := fun vs H Q _ => ∃ (r lr : Addr) (m : Nat) (B : Hp) (d md : Int) (ts : List Tb), vs = [.ref r, .int d, .ref lr] ∧ RS r m B H ∧ LD K B lr (ts.map Tb.d) ∧ Sys1 d md ts ∧ m ≤ 2 ^ 58 ∧
  ∀ p g same us B' H', Same B B' → RS r (m + 20) B' H' → B' p = some (.tup [.ref g, .bl same]) → LD K B' g (us.map Tb.d) → OkT d us → us.length = ts.length → tabEq (srt us) (srt ts) = same → Q (.ref p) H'
theorem ok_changed {f : Addr} {fd : FuncData} (F : Fun K "_law_changed" "_law_changed" s_Lchanged f fd) (T : Txt mg) (c_Ldraw : C8.Cal P w K mg base 1 "_law_draw" spDraw []) (c_Lmixed : C8.Cal P w K mg base 2 "_law_mixed" (spMixed K) []) : FnOk P w K mg base CX0 3 f fd ["_law_rng_here", "_law_dims", "_law_rows"] (spChanged K) := by
  refine F.ok sc_Lchanged (fun vs H Q E h => ?_) (fun cdv A outer sh H vs Q E hr h => ?_)
  · obtain ⟨r, lr, m, B, d, md, ts, rfl, _⟩ := h
    rfl
  · obtain ⟨r, lr, m, B, d, md, ts, rfl, R, hlr, O, hm, q⟩ := h
    have hu := hu_of hr
    refine ⟨_, (pss_cons (ps_setLc (i := 2) (own := [("_law_word", 3), ("_law_number", 4), ("_law_some", 5)]) (g := gTup K 3 (gCons (gName 3) (gCons (gName 4) (gCons (gName 5) gNil)))) (tt := tYes) (by rfl) sc_Lchanged.nd rfl rfl (sw_true rfl rfl rfl (by decide +kernel)) (pi_list (C8.pe_c c_Lmixed hr (by decide) (by rfl) (pa_cons (pv 0) (pa_cons (pv 2) pa_nil)))) (blkOk_by (N := ["_law_rng_here", "_law_dims", "_law_rows", "_law_word", "_law_number", "_law_some", "_law_way", "_law_target", "_law_vector_here", "_law_factor", "_law_moved", "_law_last"]) (sc := defScope s_Lchanged) (by decide +kernel)) (fun _ _ _ _ _ => (pg_tup rfl (pgs_cons (pg_name (i := 3) sc_Lchanged.nd rfl (by first | exact Or.inl rfl | exact Or.inr rfl)) (pgs_cons (pg_name (i := 4) sc_Lchanged.nd rfl (by first | exact Or.inl rfl | exact Or.inr rfl)) (pgs_cons (pg_name (i := 5) sc_Lchanged.nd rfl (by first | exact Or.inl rfl | exact Or.inr rfl)) pgs_nil))))) (fun _ _ _ _ _ => pts_nil) (fun _ _ _ _ _ => (pe_tup (pa_cons (pv 3) (pa_cons (pv 4) (pa_cons (pe_callTy (r := Evl.rListS K) call_list_of (by rfl) T.b_list (by decide +kernel) (pa_cons (pv 5) pa_nil)) pa_nil))))))
  (pss_cons (ps_asg (pe_ix ix_list (pv 2) pe_int (fun _ _ => rfl)) (pg_tup rfl (pgs_cons (pg_name (i := 3) sc_Lchanged.nd rfl (by first | exact Or.inl rfl | exact Or.inr rfl)) (pgs_cons (pg_name (i := 4) sc_Lchanged.nd rfl (by first | exact Or.inl rfl | exact Or.inr rfl)) (pgs_cons (pg_name (i := 5) sc_Lchanged.nd rfl (by first | exact Or.inl rfl | exact Or.inr rfl)) pgs_nil)))))
  (pss_cons (ps_set (i := 6) sc_Lchanged.nd rfl (by first | exact Or.inl rfl | exact Or.inr rfl) (C8.pe_c c_Ldraw hr (by decide) (by rfl) (pa_cons (pv 0) (pa_cons pe_int pa_nil))))
  (pss_cons (ps_if (pt_cmpR op_eq (pv 6) pe_int (nomark _))
    (pss_one (ps_ret (pe_tup (pa_cons (pe_op op_cat (pe_slice sl_list (pv 2) (po_some pe_int) po_none) (pe_lst (pa_cons (pe_tup (pa_cons (pv 3) (pa_cons (pe_op op_sub (pe_op op_add (pv 4) pe_int) (pe_op op_mulW pe_int (pe_callTy call_int1 (by rfl) T.b_int (by decide +kernel) (pa_cons (pe_cmpR op_gt (pv 4) pe_int (nomark _)) pa_nil)))) (pa_cons (pv 5) pa_nil)))) pa_nil))) (pa_cons pe_bl pa_nil)))))
    pss_nil)
  (pss_cons (ps_csq (ps_if (PW.pt (pw_and (pt_cmpR op_lt (pv 6) pe_int (nomark _)) (pw_and1 (pt_cmpR (op_neD hr.units) (pv 5) (pe_lst pa_nil) (nomark _)))))
    (pss_cons (ps_asg (pe_ix ix_list (pv 5) pe_int (fun _ _ => rfl)) (pg_tup rfl (pgs_cons (pg_name (i := 7) sc_Lchanged.nd rfl (by first | exact Or.inl rfl | exact Or.inr rfl)) (pgs_cons (pg_name (i := 8) sc_Lchanged.nd rfl (by first | exact Or.inl rfl | exact Or.inr rfl)) (pgs_cons (pg_name (i := 9) sc_Lchanged.nd rfl (by first | exact Or.inl rfl | exact Or.inr rfl)) pgs_nil)))))
    (pss_cons (ps_set (i := 10) sc_Lchanged.nd rfl (by first | exact Or.inl rfl | exact Or.inr rfl) (pe_csqE (pe_op op_catA (pe_tup (pa_cons (pe_op op_sub (pe_op op_add (pe_ix ix_tup (pv 8) pe_int (fun _ _ => rfl)) pe_int) (pe_op op_mulW pe_int (pe_callTy call_int1 (by rfl) T.b_int (by decide +kernel) (pa_cons (pe_cmpR op_gt (pe_ix ix_tup (pv 8) pe_int (fun _ _ => rfl)) pe_int (nomark _)) pa_nil)))) pa_nil)) (pe_slice sl_tupA (pv 8) (po_some pe_int) po_none))))
    (pss_cons (ps_set (i := 11) sc_Lchanged.nd rfl (by first | exact Or.inl rfl | exact Or.inr rfl) (pe_ix ix_list (pe_lst (pa_cons (pe_tup (pa_cons (pv 7) (pa_cons (pv 8) (pa_cons (pe_op op_sub pe_int (pv 9)) pa_nil)))) (pa_cons (pe_tup (pa_cons (pv 7) (pa_cons (pv 10) (pa_cons (pv 9) pa_nil)))) (pa_cons (pe_ix ix_list (pv 5) (pe_un un_neg pe_int) (fun _ _ => rfl)) pa_nil)))) (pe_op op_sub (pv 6) pe_int) (fun _ _ => rfl)))
    (pss_one (ps_ret (pe_tup (pa_cons (pe_op op_cat (pe_slice sl_list (pv 2) (po_some pe_int) po_none) (pe_lst (pa_cons (pe_tup (pa_cons (pv 3) (pa_cons (pv 4) (pa_cons (pe_op op_cat (pe_lst (pa_cons (pv 11) pa_nil)) (pe_slice sl_list (pv 5) (po_some pe_int) po_none)) pa_nil)))) pa_nil))) (pa_cons (pe_cmpR (op_eqD hr.units) (pv 11) (pe_ix ix_list (pv 5) pe_int (fun _ _ => rfl)) (nomark _)) pa_nil))))))))
    pss_nil))
  (pss_cons (ps_if (pt_cmpR op_eq (pv 6) pe_int (nomark _))
    (pss_one (ps_ret (pe_tup (pa_cons (pe_op op_cat (pe_slice sl_list (pv 2) (po_some pe_int) po_none) (pe_lst (pa_cons (pe_tup (pa_cons (pv 3) (pa_cons (pv 4) (pa_cons (pe_revL (pv 5)) pa_nil)))) pa_nil))) (pa_cons (pe_cmpR (op_eqD hr.units) (pv 5) (pe_revL (pv 5)) (nomark _)) pa_nil)))))
    pss_nil)
  (pss_one (ps_ret (pe_tup (pa_cons (pv 2) (pa_cons pe_bl pa_nil))))))))))), ?_⟩
    have t6 := O.l6
    have t1 := O.l1
    have z1 : 1 ≤ sizeLine := by decide
    have z2 : 2 ≤ sizeLine := by decide
    have z3 : 3 ≤ sizeLine := by decide
    obtain ⟨xs, hx, hxd⟩ := id hlr
    -- the rows, mixed, their lists copied
    refine ⟨_, rfl, _, rfl, r, lr, m, B, xs, ts.map Tb.d, rfl, R, Or.inl (Or.inl hx), hxd, fun e he => ?_, by rw [List.length_map]; omega, by omega, fun p H1 ys es bp rp perm dd R1 => ?_⟩
    · obtain ⟨t, ht, rfl⟩ := List.mem_map.mp he
      have z := lay_tb O.ok ht
      exact ⟨z.lay, Nat.le_trans z.dep (by decide)⟩
    obtain ⟨vs0, rfl, pv0⟩ := perm_of_map perm rfl
    rw [List.length_map] at R1
    have s1 := snew (o := .lst ys) bp
    have p1 : (upd B p (.lst ys)) p = some (.lst ys) := upd_same
    have dd1 := dpsm s1 _ _ dd
    generalize upd B p (.lst ys) = B1 at R1 s1 p1 dd1
    have yl : ys.length = vs0.length := by rw [dps_len dd, List.length_map]
    have vl : vs0.length = ts.length := pv0.length_eq.symm
    clear perm dd bp rp
    refine ⟨p, rfl, ⟨_, Or.inl (Or.inl (R1.s _ _ p1))⟩, fun D hD => ?_⟩
    have bD := free_of R1.s hD
    have rD := R1.ne hD
    refine lc_it (walk_list (K := K) (a := p) (xs := ys)) (fun i H' => ∃ (B2 : Hp) (zs : List V), Same B1 B2 ∧ B2 D = none ∧ RS r (m + ts.length) B2 H' ∧ H' D = some (.lst zs) ∧ DpAll K B2 zs ((vs0.take i).map Tb.d)) ⟨B1, [], same_refl, bD, R1.new hD, upd_same, .nil⟩ (fun i H' _ ⟨B2, zs, b1, _, b3, _⟩ => Or.inl (Or.inl (b3.s _ _ (b1 _ _ p1)))) ?_ ?_
    · rintro i y _ Hi hi ⟨B2, zs, b1, b2, b3, b4, b5⟩ ⟨rfl, hy⟩
      obtain ⟨tb, a, l, os, htb, rfl, hta, hlo, hdo⟩ := tb_at (dpsm b1 _ _ dd1) hy
      refine ⟨a, _, rfl, sqt b3.s hta, rfl, _, _, rfl, _, _, rfl, _, _, rfl, rfl, rfl, yes_if ?_⟩
      refine ⟨_, rfl, _, rfl, _, rfl, l, os, rfl, Or.inl (sql b3.s hlo), fun l2 hl2 => ⟨z3, fun u hu2 => ?_⟩⟩
      have bl := free_of b3.s hl2
      have K3 := (b3.new (o := .lst os) hl2).keep upd_same bl (b3.ne hl2)
      have s3 := snew (o := .lst os) bl
      have l3 : (upd B2 l2 (.lst os)) l2 = some (.lst os) := upd_same
      have D3 : (upd B2 l2 (.lst os)) D = none := by rw [upd_ne (ne_of_none b4 hl2)]; exact b2
      have D3' := snew (o := .lst os) hl2 _ _ b4
      generalize upd B2 l2 (.lst os) = B3 at K3 s3 l3 D3
      generalize upd Hi l2 (.lst os) = H3 at K3 hu2 D3'
      have bu := free_of K3.s hu2
      have K4 := (K3.new (o := .tup [.str tb.n, .int tb.c, .ref l2]) hu2).keep upd_same bu (K3.ne hu2)
      have D4 : (upd B3 u (.tup [.str tb.n, .int tb.c, .ref l2])) D = none := by rw [upd_ne (ne_of_none D3' hu2)]; exact D3
      refine ⟨zs, snew hu2 _ _ D3', small1000 (by rw [dps_len b5, List.length_map, List.length_take]; omega), _, zs ++ [.ref u], same_tr b1 (same_tr s3 (snew bu)), D4, K4.put D4 rD, upd_same, ?_⟩
      rw [List.take_add_one, htb, List.map_append]
      exact dps_snoc (dpsm (same_tr s3 (snew bu)) _ _ b5) (.tup (Or.inl (Or.inl upd_same)) (.cons (.str _) (.cons (.int _) (.cons (.lst (Or.inl (Or.inl (snew bu _ _ l3))) (dpsm (same_tr s3 (snew bu)) _ _ hdo)) .nil))))
    rintro H2 ⟨B2, zs, b1, b2, b3, b4, b5⟩
    rw [yl, List.take_length] at b5
    have R2 := b3.keep b4 b2 rD
    have s2 := same_tr s1 (same_tr b1 (snew (o := .lst zs) b2))
    have D2 : (upd B2 D (.lst zs)) D = some (.lst zs) := upd_same
    have d2 := dpsm (snew (o := .lst zs) b2) _ _ b5
    generalize upd B2 D (.lst zs) = B3 at R2 s2 D2 d2
    clear b1 b2 b3 b4 b5 bD hD R1 p1 dd1 R s1
    -- the first one
    obtain ⟨t0, tr, e0⟩ : ∃ t0 tr, vs0 = t0 :: tr := by
      cases vs0 with
      | nil => rw [List.length_nil] at vl; omega
      | cons t tr => exact ⟨t, tr, rfl⟩
    subst e0
    have d2' := d2
    obtain ⟨v0, zr, rfl, dv0, dzr⟩ : ∃ v0 zr, zs = v0 :: zr ∧ Dp K B3 v0 t0.d ∧ DpAll K B3 zr (tr.map Tb.d) := by
      cases d2 with
      | cons h1 h2 => exact ⟨_, _, rfl, h1, h2⟩
    obtain ⟨_, a0, l0, os, f0, e0, hta, hlo, hdo⟩ := tb_at d2' (i := 0) (x := v0) rfl
    cases f0
    subst e0
    have ht0 : t0 ∈ ts := pv0.mem_iff.mpr List.mem_cons_self
    have few0 := few_reads O.ok ht0
    have zrl : zr.length ≤ 5 := by
      have e1 := dps_len dzr
      rw [List.length_map] at e1
      rw [List.length_cons] at vl
      omega
    have ol : os.length = t0.rs.length := by rw [dps_len hdo, List.length_map]
    have shk : SeqAt.shaped t0.k = true := (lay_k O.ok ht0).shaped (by decide)
    refine ⟨_, rfl, D, _, 0, _, rfl, rfl, Or.inl (Or.inl (R2.s _ _ D2)), atI_nat (j := 0) rfl, a0, _, rfl, sqt R2.s hta, rfl, _, _, rfl, _, _, rfl, _, _, rfl, rfl, ?_⟩
    refine ⟨_, rfl, r, 7, _, rfl, R2.ok, by omega, by decide, by decide, fun way H3 w0 w7 D3 => ?_⟩
    have R3 := R2.dr D3
    clear D3 R2
    have lD := R3.s _ _ D2
    -- what all ways end with
    have fin : ∀ {B' H' : Hp} {g1 g3 a : Addr} {c' : Int} {l' : Addr} {os' : List V} {rs' : List Rd1} {m' : Nat}, Same B3 B' → RS r m' B' H' → m' ≤ m + 19 → B' a = some (.tup [.str t0.n, .int c', .ref l']) → SqL K B' l' os' → DpAll K B' os' (rs'.map Rd1.d) → B' g3 = some (.lst (zr ++ [.ref a])) → rs'.length = t0.rs.length → (∀ rd ∈ rs', isRead d rd = true ∧ rd.t ∈ ts.map (·.n)) → ∀ b : Bool, PyData.eqv (Tb.k ⟨t0.n, c', rs'⟩) t0.k = b → B' g1 = some (.tup [.ref g3, .bl b]) → Q (.ref g1) H' := fun {B' H' g1 g3 a c' l' os' rs' m'} sB RB hm' ha hl hd hg hlen hok b hb h1 => by
      refine q g1 g3 b (tr ++ [⟨t0.n, c', rs'⟩]) B' H' (same_tr s2 sB) (RB.mono (by omega)) h1 ⟨_, hg, ?_⟩ (okT_one (t' := ⟨t0.n, c', rs'⟩) pv0 O.ok rfl hlen hok) (by rw [List.length_append, ← vl]; rfl) ?_
      · rw [List.map_append]
        exact dps_snoc (dpsm sB _ _ dzr) (.tup (Or.inl (Or.inl ha)) (.cons (.str _) (.cons (.int _) (.cons (.lst hl hd) .nil))))
      · rw [← hb]
        exact tabEq_one pv0 List.perm_append_comm O.ok rfl shk
    have okr : ∀ rd ∈ t0.rs, isRead d rd = true ∧ rd.t ∈ ts.map (·.n) := fun rd hrd => ⟨O.ok.reads t0 ht0 rd hrd, O.ok.here t0 ht0 rd hrd⟩
    refine ⟨_, rfl, rfl, _, rfl, ite2 (fun hw => ?_) (fun hw => ?_)⟩
    · -- another constant
      refine ⟨_, rfl, 1, rfl, D, _, rfl, Or.inl (Or.inl lD), fun u1 hu1 => ?_⟩
      rw [cut_tl]
      have K1 := R3.new (o := .lst zr) hu1
      have u11 : (upd H3 u1 (.lst zr)) u1 = some (.lst zr) := upd_same
      generalize upd H3 u1 (.lst zr) = H4 at K1 u11
      refine ⟨_, rfl, _, rfl, t0.c, 1, rfl, rfl, _, rfl, _, _, rfl, rfl, Or.inr ⟨_, rfl, _, _, rfl, rfl, wide_mul (a := 100) (b := 100) (by decide) (by split <;> decide) (by decide) (by decide) (by decide), _, _, rfl, rfl, _, rfl, z3, fun u2 hu2 => ⟨z1, fun u3 hu3 => ?_⟩⟩⟩
      generalize hz : (fun i j : Int => V.int (i - j)) (t0.c + 1) (2 * if decide (0 < t0.c) = true then 1 else 0) = z at hu3 ⊢
      obtain ⟨c', hc', rfl⟩ : ∃ c' : Int, c' = t0.c + 1 - 2 * (if decide (0 < t0.c) = true then 1 else 0) ∧ V.int c' = z := ⟨_, rfl, hz⟩
      clear hz
      have K2 := K1.nk (o := .tup [.str t0.n, .int c', .ref l0]) hu2
      have k2 := snew (o := .tup [.str t0.n, .int c', .ref l0]) (free_of K1.s hu2)
      have u22 : (upd B3 u2 (.tup [.str t0.n, .int c', .ref l0])) u2 = some (.tup [.str t0.n, .int c', .ref l0]) := upd_same
      have u12 := snew (o := .tup [.str t0.n, .int c', .ref l0]) hu2 _ _ u11
      generalize upd B3 u2 (.tup [.str t0.n, .int c', .ref l0]) = B4 at K2 k2 u22
      generalize upd H4 u2 (.tup [.str t0.n, .int c', .ref l0]) = H5 at K2 hu3 u12
      have K3 := K2.new (o := .lst [.ref u2]) hu3
      refine ⟨u1, u3, _, _, rfl, rfl, snew hu3 _ _ u12, upd_same, Nat.le_trans (show zr.length + 1 ≤ 100 by omega) (by decide), fun u4 hu4 => ⟨z2, fun u5 hu5 => ?_⟩⟩
      have K4 := K3.nk (o := .lst (zr ++ [.ref u2])) hu4
      have K5 := K4.nk (o := .tup [.ref u4, .bl false]) hu5
      have k4 := snew (o := .lst (zr ++ [.ref u2])) (free_of K3.s hu4)
      have k5 := snew (o := .tup [.ref u4, .bl false]) (free_of K4.s hu5)
      have kk := same_tr k2 (same_tr k4 k5)
      refine fin (g3 := u4) (a := u2) kk K5 (by omega) (k5 _ _ (k4 _ _ u22)) (sql kk hlo) (dpsm kk _ _ hdo) (k5 _ _ upd_same) rfl okr false ?_ upd_same
      rw [eqv_k]
      show (decide (c' = t0.c) && _) = false
      rw [decide_eq_false (by rw [hc']; split <;> omega)]
      rfl
    -- the first read otherwise
    refine ⟨fun σ H' => σ = [some (.ref r), some (.int d), some (.ref D), some (.str t0.n), some (.int t0.c), some (.ref l0), some (.int way), none, none, none, none, none] ∧ RS r (m + ts.length + 1) B3 H', ?_, ?_⟩
    · rintro σ H4 ⟨rfl, R4⟩
      have lD4 := R4.s _ _ D2
      clear R3 lD
      refine ⟨_, rfl, rfl, _, rfl, ite2 (fun hw4 => ?_) (fun hw4 => ?_)⟩
      · refine ⟨_, rfl, 1, rfl, D, _, rfl, Or.inl (Or.inl lD4), fun u1 hu1 => ?_⟩
        rw [cut_tl]
        have K1 := R4.new (o := .lst zr) hu1
        have u11 : (upd H4 u1 (.lst zr)) u1 = some (.lst zr) := upd_same
        generalize upd H4 u1 (.lst zr) = H5 at K1 u11
        refine ⟨_, rfl, _, rfl, _, rfl, l0, os, rfl, sql K1.s hlo, fun u2 hu2 => ?_⟩
        have K2 := K1.nk (o := .lst os.reverse) hu2
        have k2 := snew (o := .lst os.reverse) (free_of K1.s hu2)
        have u22 : (upd B3 u2 (.lst os.reverse)) u2 = some (.lst os.reverse) := upd_same
        have u12 := snew (o := .lst os.reverse) hu2 _ _ u11
        generalize upd B3 u2 (.lst os.reverse) = B4 at K2 k2 u22
        generalize upd H5 u2 (.lst os.reverse) = H6 at K2 u12
        refine ⟨z3, fun u3 hu3 => ⟨z1, fun u4 hu4 => ?_⟩⟩
        have K3 := K2.nk (o := .tup [.str t0.n, .int t0.c, .ref u2]) hu3
        have k3 := snew (o := .tup [.str t0.n, .int t0.c, .ref u2]) (free_of K2.s hu3)
        have K4 := K3.new (o := .lst [.ref u3]) hu4
        refine ⟨u1, u4, _, _, rfl, rfl, snew hu4 _ _ (snew hu3 _ _ u12), upd_same, Nat.le_trans (show zr.length + 1 ≤ 100 by omega) (by decide), fun u5 hu5 => ?_⟩
        have K5 := K4.nk (o := .lst (zr ++ [.ref u3])) hu5
        have k5 := snew (o := .lst (zr ++ [.ref u3])) (free_of K4.s hu5)
        have kk := same_tr k2 (same_tr k3 k5)
        refine ⟨_, rfl, _, rfl, l0, os, rfl, sql K5.s (sql kk hlo), fun u6 hu6 => ?_⟩
        have K6 := K5.nk (o := .lst os.reverse) hu6
        have k6 := snew (o := .lst os.reverse) (free_of K5.s hu6)
        have kk6 := same_tr kk k6
        have sh1 : SeqAt.shaped (.list (t0.rs.map Rd1.d)) = true := (Lay.list (k := 3) (.map fun rd hrd => ⟨(lay_rd (okr rd hrd).1).lay, Nat.le_trans (lay_rd (okr rd hrd).1).dep (by decide)⟩)).shaped (by decide)
        have sh2 : SeqAt.shaped (.list (t0.rs.map Rd1.d).reverse) = true := by
          rw [← List.map_reverse]
          exact (Lay.list (k := 3) (.map fun rd hrd => ⟨(lay_rd (okr rd (List.mem_reverse.mp hrd)).1).lay, Nat.le_trans (lay_rd (okr rd (List.mem_reverse.mp hrd)).1).dep (by decide)⟩)).shaped (by decide)
        refine ⟨.list (t0.rs.map Rd1.d), .list (t0.rs.map Rd1.d).reverse, .lst (sql K6.s (sql kk6 hlo)) (dpsm (same_tr kk6 K6.s) _ _ hdo), .lst (Or.inl (Or.inl upd_same)) (dps_rev (dpsm (same_tr kk6 K6.s) _ _ hdo)), sh1, sh2, z2, fun u7 hu7 => ?_⟩
        have K7 := K6.nk (o := .tup [.ref u5, .bl (PyData.eqv (.list (t0.rs.map Rd1.d)) (.list (t0.rs.map Rd1.d).reverse))]) hu7
        have k7 := snew (o := .tup [.ref u5, .bl (PyData.eqv (.list (t0.rs.map Rd1.d)) (.list (t0.rs.map Rd1.d).reverse))]) (free_of K6.s hu7)
        have kk7 := same_tr kk6 k7
        refine fin (g3 := u5) (a := u3) (rs' := t0.rs.reverse) kk7 K7 (by omega) (k7 _ _ (k6 _ _ (k5 _ _ upd_same))) (Or.inl (Or.inl (k7 _ _ (k6 _ _ (k5 _ _ (k3 _ _ u22)))))) (by rw [List.map_reverse]; exact dps_rev (dpsm kk7 _ _ hdo)) (k7 _ _ (k6 _ _ upd_same)) (List.length_reverse) (fun rd hrd => okr rd (List.mem_reverse.mp hrd)) _ ?_ upd_same
        rw [eqv_k, decide_eq_true rfl, Bool.true_and]
        show PyData.eqvAll (t0.rs.reverse.map Rd1.d) (t0.rs.map Rd1.d) = _
        rw [List.map_reverse, PySem.W.eqvAll_comm]
        simp only [PyData.eqv]
      · refine ⟨_, rfl, z2, fun u hu => ?_⟩
        have K1 := R4.nk (o := .tup [.ref D, .bl true]) hu
        have k1 := snew (o := .tup [.ref D, .bl true]) (free_of R4.s hu)
        refine q u D true (t0 :: tr) _ _ (same_tr s2 k1) (K1.mono (by omega)) upd_same ⟨_, k1 _ _ D2, dpsm k1 _ _ d2'⟩ (O.ok.perm pv0) vl ?_
        rw [srt_same pv0.symm ((pv0.map (·.n)).nodup_iff.mp O.ok.nodup)]
        exact tabEq_refl (((srt_perm ts).map (·.n)).nodup_iff.mpr O.ok.nodup) fun t ht => (lay_k O.ok ((srt_perm ts).mem_iff.mp ht)).shaped (by decide)
    refine ⟨_, rfl, way, 4, rfl, rfl, _, rfl, ite2 (fun h4 => ?_) (fun h4 => ⟨rfl, R3⟩)⟩
    have h4 : way < 4 := of_decide_eq_true h4
    have h0 : way ≠ 0 := fun z => hw (by rw [z]; exact decide_eq_true rfl)
    refine ⟨_, rfl, Nat.zero_le _, fun e he => ⟨.list (t0.rs.map Rd1.d), .list [], .lst (sql (snew he) (sql R3.s hlo)) (dpsm (same_tr R3.s (snew he)) _ _ hdo), .lst (Or.inl (Or.inl upd_same)) .nil, (Lay.list (k := 3) (.map fun rd hrd => ⟨(lay_rd (okr rd hrd).1).lay, Nat.le_trans (lay_rd (okr rd hrd).1).dep (by decide)⟩)).shaped (by decide), shaped_list (by intro d h; cases h), ?_⟩⟩
    rw [eqv_nil]
    have R4 := R3.new (o := .lst []) he
    generalize upd H3 e (.lst []) = H4 at R4
    clear R3 lD he
    cases hrs : t0.rs with
    | nil => exact ⟨_, rfl, iteF ⟨rfl, R4⟩⟩
    | cons rd0 rr =>
      refine ⟨_, rfl, iteT ?_⟩
      have hdo' := hdo
      rw [hrs] at hdo'
      obtain ⟨w0, wr, rfl, dw0, dwr⟩ : ∃ w0 wr, os = w0 :: wr ∧ Dp K B3 w0 rd0.d ∧ DpAll K B3 wr (rr.map Rd1.d) := by
        cases hdo' with
        | cons h1 h2 => exact ⟨_, _, rfl, h1, h2⟩
      obtain ⟨_, ra, rb, f0, rfl, _, fa, fb⟩ := rd_at hdo' (i := 0) (x := w0) rfl
      cases f0
      have hr0 := okr rd0 (by rw [hrs]; exact List.mem_cons_self)
      have vd : (rd0.v.length : Int) = d := by
        have z := hr0.1
        unfold isRead at z
        rw [Bool.and_eq_true, Bool.and_eq_true] at z
        exact of_decide_eq_true z.2.1
      have od1 := O.d1
      have od3 := O.d3
      obtain ⟨x0, vr, ev⟩ : ∃ x0 vr, rd0.v = x0 :: vr := by
        cases hv : rd0.v with
        | nil => rw [hv, List.length_nil] at vd; omega
        | cons a b => exact ⟨a, b, rfl⟩
      have l0at := sql R4.s hlo
      refine ⟨_, rfl, l0, _, 0, _, rfl, rfl, l0at, atI_nat (j := 0) rfl, ra, _, rfl, sqt R4.s fa, rfl, _, _, rfl, _, _, rfl, _, _, rfl, rfl, ?_⟩
      have fb4 : SqT K H4 rb (V.int x0 :: vr.map V.int) := by
        have z := sqt R4.s fb
        rw [ev] at z
        exact z
      -- the vector moved
      refine ⟨fun v H' => ∃ (mv : Addr) (c' : Int) (B' : Hp), v = .ref mv ∧ Same B3 B' ∧ RS r (m + ts.length + 1) B' H' ∧ B' mv = some (.tup ((c' :: vr).map V.int)), ?_, ?_⟩
      · rintro v H5 ⟨mv, c', B5, rfl, s5, R5, m5⟩
        have l05 := sql R5.s (sql s5 hlo)
        clear l0at fb4 R4
        refine ⟨_, rfl, _, rfl, _, rfl, _, _, rfl, rfl, z3, fun u4 hu4 => ?_⟩
        have K4 := R5.nk (o := .tup [.str rd0.t, .ref rb, .int (0 - rd0.f)]) hu4
        have k4 := snew (o := .tup [.str rd0.t, .ref rb, .int (0 - rd0.f)]) (free_of R5.s hu4)
        have at4 : (upd B5 u4 (.tup [.str rd0.t, .ref rb, .int (0 - rd0.f)])) u4 = some (.tup [.str rd0.t, .ref rb, .int (0 - rd0.f)]) := upd_same
        refine ⟨_, rfl, _, rfl, _, rfl, z3, fun u5 hu5 => ?_⟩
        have K5 := K4.nk (o := .tup [.str rd0.t, .ref mv, .int rd0.f]) hu5
        have k5 := snew (o := .tup [.str rd0.t, .ref mv, .int rd0.f]) (free_of K4.s hu5)
        have at5 : (upd (upd B5 u4 (.tup [.str rd0.t, .ref rb, .int (0 - rd0.f)])) u5 (.tup [.str rd0.t, .ref mv, .int rd0.f])) u5 = some (.tup [.str rd0.t, .ref mv, .int rd0.f]) := upd_same
        have at4' := k5 _ _ at4
        have s55 := same_tr s5 (same_tr k4 k5)
        have m55 := k5 _ _ (k4 _ _ m5)
        generalize upd (upd B5 u4 (.tup [.str rd0.t, .ref rb, .int (0 - rd0.f)])) u5 (.tup [.str rd0.t, .ref mv, .int rd0.f]) = B6 at K5 at5 at4' s55 m55
        clear K4 k4 at4 k5
        -- the last one
        obtain ⟨osl, vl', eos⟩ : ∃ osl vl', V.ref ra :: wr = osl ++ [vl'] := by
          have h := List.eq_nil_or_concat (V.ref ra :: wr)
          rcases h with h | ⟨a, b, h⟩
          · cases h
          · exact ⟨a, b, by rw [h, List.concat_eq_append]⟩
        obtain ⟨rdl, el, dl⟩ : ∃ rdl, rdl ∈ t0.rs ∧ Dp K B3 vl' rdl.d := by
          have hg : (V.ref ra :: wr)[osl.length]? = some vl' := by rw [eos]; simp
          obtain ⟨rd, _, _, e1, _, e2, _, _⟩ := rd_at hdo hg
          exact ⟨rd, List.mem_of_getElem? e1, e2⟩
        refine ⟨_, rfl, 1, rfl, l0, _, -1, vl', rfl, rfl, sql K5.s (sql s55 hlo), by rw [eos]; exact atI_last osl vl', z3, fun u6 hu6 => ?_⟩
        have K6 := K5.new (o := .lst [.ref u4, .ref u5, vl']) hu6
        obtain ⟨vx, rd', hat, hdx, hokx⟩ : ∃ vx rd', atI [V.ref u4, V.ref u5, vl'] (way - 1) = some vx ∧ Dp K B6 vx rd'.d ∧ isRead d rd' = true ∧ rd'.t ∈ ts.map (·.n) := by
          have z := hr0.1
          unfold isRead at z
          rw [Bool.and_eq_true, Bool.and_eq_true] at z
          have fne : rd0.f ≠ 0 := by
            have z3 := z.2.2
            simpa using z3
          have h3 : way = 1 ∨ way = 2 ∨ way = 3 := by omega
          rcases h3 with h3 | h3 | h3 <;> rw [h3]
          · refine ⟨_, ⟨rd0.t, rd0.v, 0 - rd0.f⟩, rfl, .tup (Or.inl (Or.inl at4')) (.cons (.str _) (.cons (.tup (sqt s55 fb) (ints_dps _)) (.cons (.int _) .nil))), ?_, hr0.2⟩
            unfold isRead
            rw [Bool.and_eq_true, Bool.and_eq_true]
            refine ⟨z.1, z.2.1, ?_⟩
            have : (0 - rd0.f : Int) ≠ 0 := by omega
            simpa using this
          · refine ⟨_, ⟨rd0.t, c' :: vr, rd0.f⟩, rfl, .tup (Or.inl (Or.inl at5)) (.cons (.str _) (.cons (.tup (Or.inl (Or.inl m55)) (ints_dps _)) (.cons (.int _) .nil))), ?_, hr0.2⟩
            unfold isRead
            rw [Bool.and_eq_true, Bool.and_eq_true]
            refine ⟨z.1, ?_, z.2.2⟩
            have z2 := z.2.1
            rw [ev] at z2
            exact z2
          · exact ⟨_, rdl, rfl, dpm s55 _ _ dl, (okr rdl el).1, (okr rdl el).2⟩
        refine ⟨_, rfl, _, _, rfl, rfl, u6, _, _, vx, rfl, rfl, Or.inl (Or.inl upd_same), hat, ?_⟩
        generalize upd _ u6 (HO.lst [V.ref u4, V.ref u5, vl']) = H6 at K6
        clear hat hu6 hu5 hu4 K5 at5 at4' m55 m5 R5 s5 l05
        -- what is told
        refine ⟨_, rfl, 1, rfl, D, _, rfl, Or.inl (Or.inl (K6.s _ _ (s55 _ _ D2))), fun u7 hu7 => ?_⟩
        rw [cut_tl]
        have K7 := K6.new (o := .lst zr) hu7
        have at7 : (upd H6 u7 (.lst zr)) u7 = some (.lst zr) := upd_same
        generalize upd H6 u7 (.lst zr) = H7 at K7 at7
        refine ⟨_, rfl, _, rfl, _, rfl, z1, fun u8 hu8 => ?_⟩
        have K8 := K7.new (o := .lst [vx]) hu8
        have at8 : (upd H7 u8 (.lst [vx])) u8 = some (.lst [vx]) := upd_same
        have at78 := snew (o := .lst [vx]) hu8 _ _ at7
        generalize upd H7 u8 (.lst [vx]) = H8 at K8 at8 at78
        refine ⟨_, rfl, 1, rfl, l0, _, rfl, sql K8.s (sql s55 hlo), fun u9 hu9 => ?_⟩
        rw [cut_tl]
        have K9 := K8.new (o := .lst wr) hu9
        refine ⟨u8, u9, _, _, rfl, rfl, snew hu9 _ _ at8, upd_same, Nat.le_trans (show 1 + wr.length ≤ 100 by rw [List.length_cons] at ol; omega) (by decide), fun u10 hu10 => ?_⟩
        have at79 := snew hu10 (o := .lst ([vx] ++ wr)) _ _ (snew hu9 (o := .lst wr) _ _ at78)
        have K10 := K9.nk (o := .lst ([vx] ++ wr)) hu10
        have k10 := snew (o := .lst ([vx] ++ wr)) (free_of K9.s hu10)
        have at10 : (upd B6 u10 (.lst ([vx] ++ wr))) u10 = some (.lst ([vx] ++ wr)) := upd_same
        generalize upd (upd H8 u9 (.lst wr)) u10 (.lst ([vx] ++ wr)) = H10 at K10 at79
        refine ⟨z3, fun u11 hu11 => ⟨z1, fun u12 hu12 => ?_⟩⟩
        have K11 := K10.nk (o := .tup [.str t0.n, .int t0.c, .ref u10]) hu11
        have k11 := snew (o := .tup [.str t0.n, .int t0.c, .ref u10]) (free_of K10.s hu11)
        have K12 := K11.new (o := .lst [.ref u11]) hu12
        refine ⟨u7, u12, _, _, rfl, rfl, snew hu12 _ _ (snew hu11 _ _ at79), upd_same, Nat.le_trans (show zr.length + 1 ≤ 100 by omega) (by decide), fun u13 hu13 => ?_⟩
        have K13 := K12.nk (o := .lst (zr ++ [.ref u11])) hu13
        have k13 := snew (o := .lst (zr ++ [.ref u11])) (free_of K12.s hu13)
        have kk := same_tr k10 (same_tr k11 k13)
        have kk3 := same_tr s55 kk
        have shx := (lay_rd hokx.1).shaped (by decide)
        have sh0 := (lay_rd hr0.1).shaped (by decide)
        refine ⟨_, rfl, _, rfl, l0, _, 0, _, rfl, rfl, sql K13.s (sql kk3 hlo), atI_nat (j := 0) rfl, rd'.d, rd0.d, dpm (same_tr kk K13.s) _ _ hdx, dpm (same_tr kk3 K13.s) _ _ dw0, shx, sh0, z2, fun u14 hu14 => ?_⟩
        have K14 := K13.nk (o := .tup [.ref u13, .bl (PyData.eqv rd'.d rd0.d)]) hu14
        have k14 := snew (o := .tup [.ref u13, .bl (PyData.eqv rd'.d rd0.d)]) (free_of K13.s hu14)
        refine fin (g3 := u13) (a := u11) (rs' := rd' :: rr) (same_tr kk3 k14) K14 (by omega) (k14 _ _ (k13 _ _ upd_same)) (Or.inl (Or.inl (k14 _ _ (k13 _ _ (k11 _ _ at10))))) (.cons (dpm (same_tr kk k14) _ _ hdx) (dpsm (same_tr kk3 k14) _ _ dwr)) (k14 _ _ upd_same) (by rw [hrs]; rfl) (fun rd hrd => ?_) _ ?_ upd_same
        · rcases List.mem_cons.mp hrd with rfl | h
          · exact hokx
          · exact okr rd (by rw [hrs]; exact List.mem_cons_of_mem _ h)
        · rw [eqv_k, decide_eq_true rfl, Bool.true_and, hrs]
          show PyData.eqvAll (rd'.d :: rr.map Rd1.d) (rd0.d :: rr.map Rd1.d) = _
          have hrr : PyData.eqvAll (rr.map Rd1.d) (rr.map Rd1.d) = true := by
            have z := SeqAt.eqv_refl (.list (rr.map Rd1.d)) (Lay.list (k := 3) (.map fun rd hrd => ⟨(lay_rd (okr rd (by rw [hrs]; exact List.mem_cons_of_mem _ hrd)).1).lay, Nat.le_trans (lay_rd (okr rd (by rw [hrs]; exact List.mem_cons_of_mem _ hrd)).1).dep (by decide)⟩)).lay
            simpa only [PyData.eqv] using z
          rw [PyData.eqvAll, hrr, Bool.and_true]
      · refine ⟨_, rfl, rb, _, 0, _, rfl, rfl, fb4, atI_nat (j := 0) rfl, _, _, rfl, rfl, _, rfl, rb, _, 0, _, rfl, rfl, fb4, atI_nat (j := 0) rfl, _, _, rfl, rfl, Or.inr ⟨_, rfl, _, _, rfl, rfl, wide_mul (a := 100) (b := 100) (by decide) (by split <;> decide) (by decide) (by decide) (by decide), _, _, rfl, rfl, z1, fun u1 hu1 => ?_⟩⟩
        generalize hz : (fun i j : Int => V.int (i - j)) (x0 + 1) (2 * if decide (0 < x0) = true then 1 else 0) = z at hu1 ⊢
        obtain ⟨c', rfl⟩ : ∃ c' : Int, V.int c' = z := ⟨_, hz⟩
        clear hz
        have K1 := R4.nk (o := .tup [.int c']) hu1
        have k1 := snew (o := .tup [.int c']) (free_of R4.s hu1)
        refine ⟨_, rfl, 1, rfl, rb, _, rfl, sqt (snew hu1) fb4, fun h => absurd h cut_whole1, fun _ u2 hu2 => ?_⟩
        rw [cut_tl]
        have K2 := K1.new (o := .tup (vr.map V.int)) hu2
        refine ⟨u1, u2, _, _, rfl, rfl, Or.inl (Or.inl (snew hu2 _ _ upd_same)), Or.inl (Or.inl upd_same), Nat.le_trans (show 1 + (vr.map V.int).length ≤ 100 by rw [List.length_map]; rw [ev, List.length_cons] at vd; omega) (by decide), (fun z => by cases z), fun _ e => ?_, fun _ _ u3 hu3 => ?_⟩
        · refine ⟨u1, c', _, rfl, k1, K2, ?_⟩
          rw [List.map_cons, e]
          exact upd_same
        · exact ⟨u3, c', _, rfl, same_tr k1 (snew (free_of K2.s hu3)), K2.nk hu3, upd_same⟩
end
end Fr

namespace Fr
open PySem PySem.Spec PyProof.Rows L2
section
variable {P : Program} {w : World} {K : PySem.W.Frag} {mg : Str → Option Value} {base : Heap}
theorem mk_sys {C : Addr} {TT : List (Addr × Str)} {H : Hp} {d m : Int} {v : V} {ts : List Tb} {R : Hp → Prop} {E : XK} (hT : LamX.Tabs TT H) (O : OkSys d m ts) (hv : Dp K H v (.list (ts.map Tb.d))) {x dx : Addr} (nx : H x = none) (ndx : H dx = none) (nex : dx ≠ x)
    (q : ∀ H', LamX.ExtN H H' → LamX.Tabs TT H' → SysAt K C H' x d m (srt ts) → R H') : spInit K C TT [.ref x, .int d, v, .int m] (upd (upd H dx (.own x)) x (.ins C dx [])) (fun v H2 => v = .non ∧ R H2) E := by
  have sx : Same H (upd (upd H dx (.own x)) x (.ins C dx [])) := same_tr (snew ndx) (snew (by rw [upd_ne nex.symm]; exact nx))
  exact ⟨x, dx, d, m, v, ts, rfl, upd_same, hT.ext sx, O, dpm sx _ _ hv, fun H2 E2 hT2 S2 => ⟨rfl, q H2 (fun b o e n => E2 b o (sx b o e) (ne_of_none e nx) n) hT2 S2⟩⟩
theorem eq_sys {C a b : Addr} {H : Hp} {d m : Int} {ts : List Tb} {Q : VK} (S : SysAt K C H a d m ts) (S' : SysAt K C H b d m ts) (O : OkT d ts) (q : Q (.bl true) H) : rEqOwn C (spSysEq K C) (.ref a) (.ref b) H Q := by
  have sh : ∀ t ∈ ts, SeqAt.shaped t.k = true := fun t ht => (lay_k O ht).shaped (by decide)
  obtain ⟨dx, t, kvs, h1, _⟩ := id S.ob
  obtain ⟨dx', t', kvs', h1', _⟩ := id S'.ob
  refine ⟨a, b, dx, dx', _, _, rfl, rfl, h1, h1', a, b, d, m, d, m, ts, ts, rfl, S, S', sh, sh, _, rfl, ?_⟩
  rw [tabEq_refl O.nodup sh, decide_eq_true rfl, decide_eq_true rfl]
  exact q
theorem no_fld {d m : Int} {t : Addr} {x : Str} (h : decide (x = "_dimensions" ∨ x = "_modulus" ∨ x = "_tables") = false) : (flds d m t).lookup x = none := by
  have h := of_decide_eq_false h
  exact flds_no _ _ _ (fun e => h (.inl e)) (fun e => h (.inr (.inl e))) fun e => h (.inr (.inr e))
end
section
variable {K : PySem.W.Frag} {TT : List (Addr × Str)} {r : Addr} {m m' : Nat} {B B' H H' : Hp}
theorem LS.ext (h : LS TT r m B H) (x : LamX.ExtN H H') (t : LamX.Tabs TT H') : LS TT r m B H' := by
  obtain ⟨a, b, c, e, n⟩ := h.rs.ok
  exact ⟨⟨same_of_ext h.rs.s h.nt x, h.rs.n, a, b, c, x _ _ e (fun ps z => by cases z), n⟩, t, h.nt⟩
theorem LS.up (h : LS TT r m B H) : Same B (bs H r) := fun b o e => bs_of (h.rs.s b o e) (ne_of_none e h.rs.n) fun ps z => h.nt b ps (by rw [e, z])
theorem LS.re (h : LS TT r m B H) : LS TT r m (bs H r) H := LS.own h.rs.ok h.tb
theorem LS.call (h : LS TT r m B H) (R : RS r m' B' H') (s : Same (cutr H r) B') : LS TT r m' B H' :=
  ⟨⟨fun b o e => R.s _ _ (s _ _ (by rw [cutr_ne (ne_of_none e h.rs.n)]; exact h.rs.s b o e)), h.rs.n, R.ok⟩, tabs_cut h.tb h.rs.ok (same_tr s R.s), h.nt⟩
theorem LD.bs {l : Addr} {ds : List PyData} (h : LD K H l ds) (n : noLs ds = true) (ok : RngOk H r m) (ne : r ≠ l) : LD K (Fr.bs H r) l ds := by
  obtain ⟨xs, h1, h2⟩ := h
  exact ⟨xs, bs_of h1 ne.symm (fun ps z => by cases z), dpst (ST.bs ok) _ _ n h2⟩
theorem ST.cut (ok : RngOk H r m) : ST H (cutr H r) := fun b o e d => by
  obtain ⟨x, y, z, h1, _⟩ := ok
  rw [cutr_ne fun q => by rw [q, h1] at e; cases e; cases d]
  exact e
theorem sd_to (s : Same B H) (n : B r = none) (x : LamX.ExtN H H') : SD B (Fr.bs H' r) := fun b o e d => by
  have nt : ∀ ps, o ≠ .tbl ps := fun ps z => by
    rw [z] at d
    cases d
  exact bs_of (x _ _ (s _ _ e) nt) (ne_of_none e n) nt
theorem LD.to {l : Addr} {ds : List PyData} (h : LD K B l ds) (s : Same B H) (n : B r = none) (x : LamX.ExtN H H') : LD K (Fr.bs H' r) l ds := by
  obtain ⟨xs, h1, h2⟩ := h
  exact ⟨xs, sd_to s n x _ _ h1 rfl, dpsd (sd_to s n x) _ _ h2⟩
theorem SysAt.re {C s : Addr} {d md : Int} {ts : List Tb} (h : SysAt K C H s d md ts) (ok : RngOk H r m) : SysAt K C (Fr.bs H r) s d md ts := h.bs ok fun _ => kvt (ST.bs ok)
end
theorem dps_take {K : PySem.W.Frag} {H : Hp} : ∀ (n : Nat) {vs : List V} {ds : List PyData}, DpAll K H vs ds → DpAll K H (vs.take n) (ds.take n)
  | 0, _, _, _ => by rw [List.take_zero, List.take_zero]; exact .nil
  | n + 1, _, _, h => by
    cases h with
    | nil => exact .nil
    | cons h1 h2 => exact .cons h1 (dps_take n h2)
theorem LS.keep {TT : List (Addr × Str)} {r p : Addr} {m : Nat} {B H : Hp} {o : HO} (h : LS TT r m B H) (e : H p = some o) (k : B p = none) (n : r ≠ p) (t : ∀ ps, o ≠ .tbl ps) : LS TT r m (upd B p o) H :=
  ⟨h.rs.keep e k n, h.tb, fun b ps z => by
    by_cases hb : b = p
    · rw [hb, upd_same] at z
      exact t ps (Option.some.inj z)
    · rw [upd_ne hb] at z
      exact h.nt b ps z⟩
theorem cut_any (xs : List V) (i : Nat) : cutV xs none (some (i : Int)) = xs.take i := by
  unfold cutV
  rw [show HT.sIx xs.length xs.length (some (i : Int)) = min i xs.length from HT.sIx_nat xs.length xs.length i, HT.sIx_none, List.drop_zero, Nat.sub_zero]
  exact (List.take_eq_take_min).symm
theorem LD.dr {K : PySem.W.Frag} {H H' : Hp} {l r : Addr} {m m' : Nat} {ds : List PyData} (h : LD K H l ds) (n : noLs ds = true) (ok : RngOk H r m) (d : Dr r m' H H') (ne : r ≠ l) : LD K H' l ds := h.st (ST.dr ok d) n (d.ne _ ne.symm)
theorem srt_srt {ts : List Tb} (n : (ts.map (·.n)).Nodup) : srt (srt ts) = srt ts := (srt_same (srt_perm ts).symm n).symm
end Fr

namespace Fr
open PySem PySem.Spec PyProof.Rows L2
abbrev s_Lright : Stmt := topS 28
theorem sc_Lright : FnScope ["_law_made", "_law_dims", "_law_rows", "_law_base", "_law_told", "_law_words", "_law_word", "_law_number", "_law_some", "_law_due", "_law_spot", "_law_numbers_here", "_law_row"] ["_law_made", "_law_dims", "_law_rows", "_law_base"] (defScope s_Lright) := ⟨rfl, rfl, rfl, by decide +kernel, rfl, by decide +kernel, by decide +kernel⟩
-- slots: 0 _law_made, 1 _law_dims, 2 _law_rows, 3 _law_base, 4 _law_told, 5 _law_words, 6 _law_word, 7 _law_number, 8 _law_some, 9 _law_due, 10 _law_spot, 11 _law_numbers_here, 12 _law_row
/-- tracked tuples (text, int) -/
def T2At (H : Hp) (v : V) (x : Str × Int) : Prop := ∃ a, v = .ref a ∧ H a = some (.tup [.str x.1, .int x.2])
theorem T2At.mono {H H' : Hp} (e : Same H H') {v : V} {x : Str × Int} (h : T2At H v x) : T2At H' v x := by
  obtain ⟨a, h1, h2⟩ := h
  exact ⟨a, h1, e _ _ h2⟩
theorem T2At.fn {H : Hp} {v : V} {x y : Str × Int} (h : T2At H v x) (k : T2At H v y) : x = y := by
  obtain ⟨a, rfl, h2⟩ := h
  obtain ⟨b, e, k2⟩ := k
  cases e
  rw [h2] at k2
  injection k2 with k2
  injection k2 with k2
  injection k2 with e1 e2
  injection e1 with e1
  injection e2 with e2 _
  injection e2 with e2
  exact Prod.ext e1 e2
theorem pair_mono {α β : Type} {F G : α → β → Prop} (m : ∀ a b, F a b → G a b) {xs : List α} {ys : List β} (h : Paired F xs ys) : Paired G xs ys := _root_.L2.Paired.mapP h m
theorem pair_snoc {α β : Type} {F : α → β → Prop} {a : α} {b : β} (h : F a b) : ∀ {xs : List α} {ys : List β}, Paired F xs ys → Paired F (xs ++ [a]) (ys ++ [b])
  | [], _, k => by cases k; exact .cons h .nil
  | x :: xs, _, k => by
    cases k with
    | cons k1 k2 => exact .cons k1 (pair_snoc h k2)
theorem pair_app {α β : Type} {F : α → β → Prop} : ∀ {xs us : List α} {ys vs : List β}, Paired F xs ys → Paired F us vs → Paired F (xs ++ us) (ys ++ vs)
  | [], _, _, _, h, k => by cases h; exact k
  | x :: xs, _, _, _, h, k => by
    cases h with
    | cons h1 h2 => exact .cons h1 (pair_app h2 k)
theorem t2_key {H : Hp} {zs : List V} {xs : List (Str × Int)} (h : Paired (T2At H) zs xs) : ∃ k : V → Str × Int, (∀ z ∈ zs, T2At H z (k z)) ∧ zs.map k = xs := by
  have ex : ∀ z : V, ∃ p : Str × Int, (∃ q, T2At H z q) → T2At H z p := fun z => by
    by_cases e : ∃ q, T2At H z q
    · obtain ⟨q, hq⟩ := e
      exact ⟨q, fun _ => hq⟩
    · exact ⟨("", 0), fun z => absurd z e⟩
  obtain ⟨k, hk⟩ := Classical.axiomOfChoice ex
  refine ⟨k, ?_, ?_⟩
  · induction h with
    | nil => intro z hz; cases hz
    | @cons a b _ _ h1 _ ih =>
      intro z hz
      rcases List.mem_cons.mp hz with rfl | hz
      · exact hk z ⟨b, h1⟩
      · exact ih z hz
  · induction h with
    | nil => rfl
    | @cons a b _ _ h1 _ ih =>
      rw [List.map_cons, ih, (hk a ⟨b, h1⟩).fn h1]
theorem t2_dps {K : PySem.W.Frag} {H : Hp} {k : V → Str × Int} : ∀ {ys : List V} {ns : List (Str × Nat)}, (∀ y ∈ ys, T2At H y (k y)) → ys.map k = ns.map (fun x => (x.1, (x.2 : Int))) → DpAll K H ys (ns.map nrD)
  | [], [], _, _ => .nil
  | [], n :: ns, _, e => by cases e
  | y :: ys, [], _, e => by cases e
  | y :: ys, n :: ns, h, e => by
    rw [List.map_cons, List.map_cons] at e
    injection e with e1 e2
    obtain ⟨a, ea, ha⟩ := h y List.mem_cons_self
    rw [e1] at ha
    rw [ea]
    exact .cons (.tup (Or.inl (Or.inl ha)) (.cons (.str _) (.cons (.int _) .nil))) (t2_dps (fun z hz => h z (List.mem_cons_of_mem _ hz)) e2)
theorem lexT_anti {a b : Str × Int} (h : Srt2.lexT b a = false) (k : Srt2.lexT a b = false) : a = b := by
  rcases Srt2.lexT_no.mp h with h1 | ⟨h1, h2⟩ <;> rcases Srt2.lexT_no.mp k with k1 | ⟨k1, k2⟩
  · exact absurd (List.lt_trans h1 k1) (List.lt_irrefl _)
  · rw [k1] at h1
    exact absurd h1 (List.lt_irrefl _)
  · rw [h1] at k1
    exact absurd k1 (List.lt_irrefl _)
  · exact Prod.ext h1 (by omega)
theorem sorted_named {ts : List Tb} {ys : List V} {k : V → Str × Int} (nd : (ts.map (·.n)).Nodup) (s : SrtO.Srtd (fun x y => Srt2.lexT (k x) (k y)) ys) (p : (ys.map k).Perm ((named ts).map fun x => (x.1, (x.2 : Int)))) : ys.map k = (named (srt ts)).map fun x => (x.1, (x.2 : Int)) := by
  refine List.Perm.eq_of_pairwise (le := fun a b => Srt2.lexT b a = false) (fun a b _ _ h k => lexT_anti h k) (SrtO.srtd_map s) (named_srtd ts nd) (p.trans ?_)
  refine List.Perm.map _ ?_
  unfold named
  exact ((srt_perm ts).symm).flatMap_right _
theorem merge_nodup : ∀ (kvs acc : List (Key × V)), ((acc ++ kvs).map (·.1)).Nodup → mergeK acc kvs = acc ++ kvs
  | [], acc, _ => (List.append_nil acc).symm
  | (a, b) :: kvs, acc, h => by
    have hno : valV acc a = none := by
      unfold valV
      rw [List.find?_eq_none.mpr fun q hq z => ?_]
      · rfl
      · rw [List.map_append, List.nodup_append] at h
        have e : q.1 = a := by simpa using z
        exact h.2.2 q.1 (List.mem_map.mpr ⟨q, hq, rfl⟩) a List.mem_cons_self e
    show mergeK (putK acc a b) kvs = _
    rw [putK_new _ hno, merge_nodup kvs (acc ++ [(a, b)]) (by rw [List.append_assoc]; exact h), List.append_assoc]
    rfl
def numsK (ts : List Tb) : List (Key × V) := ts.map fun t => (Sum.inr t.n, V.int t.c)
theorem nums_val {ts : List Tb} (nd : (ts.map (·.n)).Nodup) {t : Tb} (h : t ∈ ts) : valV (numsK ts) (Sum.inr t.n) = some (.int t.c) := by
  induction ts with
  | nil => cases h
  | cons u us ih =>
    rw [List.map_cons, List.nodup_cons] at nd
    unfold numsK valV
    rw [List.map_cons]
    rcases List.mem_cons.mp h with rfl | h
    · rw [List.find?_cons_of_pos (by simp)]
      rfl
    · rw [List.find?_cons_of_neg (by
        simp only [decide_eq_true_eq]
        intro z
        exact nd.1 (by rw [Sum.inr.inj z]; exact List.mem_map.mpr ⟨t, h, rfl⟩))]
      exact ih nd.2 h
theorem nums_merge {ts : List Tb} (nd : (ts.map (·.n)).Nodup) : mergeK [] (numsK ts) = numsK ts := by
  refine merge_nodup _ [] ?_
  rw [List.nil_append]
  unfold numsK
  rw [List.map_map]
  have e : ts.map ((fun x : Key × V => x.1) ∘ fun t : Tb => ((Sum.inr t.n : Key), V.int t.c)) = (ts.map (·.n)).map Sum.inr := by rw [List.map_map]; rfl
  rw [e]
  exact List.pairwise_map.mpr (nd.imp fun h z => h (Sum.inr.inj z))
def rt1 (d m : Int) (ns : List Str) : PyData := .list [.int d, .int m, .list (ns.map .str), .int (ns.length : Nat)]
theorem rt1_shw {d m : Int} {ns : List Str} (hd : 1 ≤ d ∧ d ≤ 3) (hm : 2 ≤ m ∧ m ≤ 1000000000) (h : ∀ x ∈ ns, isName x = true) (l : ns.length ≤ 6) : Shw (rt1 d m ns) 5 1000 := by
  have hs : ShwA (ns.map .str) 2 60 := (ShwA.map (w := 8) fun x hx => Shw.str (name_ok (h x hx)).1 (name_ok (h x hx)).2).mono (Nat.le_refl _) (by omega)
  exact (Shw.list (ShwA.c (Shw.one (k := 3) (i := d) (by omega)) (ShwA.c (Shw.one (i := m) (by omega)) (ShwA.c (Shw.list hs) (ShwA.c (Shw.one (i := (ns.length : Nat)) (by omega)) ShwA.nil))))).mono (by decide) (by decide)
section
variable {P : Program} {w : World} {K : PySem.W.Frag} {mg : Str → Option Value} {base : Heap}
def spRight1 (K : PySem.W.Frag) (C : Addr) : Sp := fun vs H Q _ => ∃ (x lr : Addr) (d md : Int) (ts : List Tb), vs = [.ref x, .int d, .ref lr, .int md] ∧ SysAt K C H x d md (srt ts) ∧ LD K H lr (ts.map Tb.d) ∧ Sys1 d md ts ∧ ∀ H', Same H H' → Q (.bl true) H'
theorem ok_right1 {f C : Addr} {fd : FuncData} (F : Fun K "_law_right" "_law_right" s_Lright f fd) (T : Txt mg) (zr : mg "repr" = none) (zd : mg "dict" = none) (TC : TxtC K mg C) (p_names : Prp P w K mg base 1 C "names" (spNames K C)) (p_dimensions : Prp P w K mg base 1 C "dimensions" (spDims K C)) (p_modulus : Prp P w K mg base 1 C "modulus" (spMod K C))
    (t_constant : C8.Met P w K mg base 4 C "constant" (spConst K C) []) (kt_constant : MetK P w K mg base 4 C "constant" (spConst K C) ["name"] kw1) (t_reads : C8.Met P w K mg base 4 C "reads" (spReads K C) []) (kt_reads : MetK P w K mg base 4 C "reads" (spReads K C) ["name"] kw1) (t_all_reads : C8.Met P w K mg base 1 C "all_reads" (spAll K C) []) (len_System : LenM P w K mg base 1 C (spLenS K C)) :
    FnG P w K mg base 5 f fd ["_law_made", "_law_dims", "_law_rows", "_law_base"] (spRight1 K C) := by
  refine Fun_okG F sc_Lright (fun vs H Q E h => ?_) (fun cdv A outer sh H vs Q E hr h => ?_)
  · obtain ⟨x, lr, d, md, ts, rfl, _⟩ := h
    rfl
  · obtain ⟨x, lr, d, md, ts, rfl, S, hlr, O, q⟩ := h
    have hu := hu_of hr.room
    refine ⟨_, (pss_cons (ps_set (i := 4) sc_Lright.nd rfl (by first | exact Or.inl rfl | exact Or.inr rfl) (pe_lst (pa_cons (pe_pr (pv 0) p_dimensions hr.room (by decide) rfl) (pa_cons (pe_pr (pv 0) p_modulus hr.room (by decide) rfl) (pa_cons (pe_pr (pv 0) p_names hr.room (by decide) rfl) (pa_cons (pe_callB (call_lenOwn len_System hr.room (by decide)) (by rfl) T.b_len PySem.boot_len (pa_cons (pv 0) pa_nil)) pa_nil))))))
  (pss_cons (ps_set (i := 5) sc_Lright.nd rfl (by first | exact Or.inl rfl | exact Or.inr rfl) (pe_callB cr_sortedS (by rfl) T.b_sorted (by decide +kernel) (pa_cons (pe_lc (own := [("_law_word", 6), ("_law_number", 7), ("_law_some", 8)]) (g := gTup K 3 (gCons (gName 6) (gCons (gName 7) (gCons (gName 8) gNil)))) (tt := tYes) (by rfl) sc_Lright.nd (pi_list (pv 2)) (blkOk_by (N := ["_law_made", "_law_dims", "_law_rows", "_law_base", "_law_told", "_law_words", "_law_word", "_law_number", "_law_some", "_law_due", "_law_spot", "_law_numbers_here", "_law_row"]) (sc := defScope s_Lright) (by decide +kernel)) (fun _ _ _ _ _ => (pg_tup rfl (pgs_cons (pg_name (i := 6) sc_Lright.nd rfl (by first | exact Or.inl rfl | exact Or.inr rfl)) (pgs_cons (pg_name (i := 7) sc_Lright.nd rfl (by first | exact Or.inl rfl | exact Or.inr rfl)) (pgs_cons (pg_name (i := 8) sc_Lright.nd rfl (by first | exact Or.inl rfl | exact Or.inr rfl)) pgs_nil))))) (fun _ _ _ _ _ => pts_nil) (fun _ _ _ _ _ => (pv 6))) pa_nil)))
  (pss_cons (ps_if (pt_cmpR op_ne (pe_callB (call_reprD hr.free hr.room.units1) (by rfl) zr (by decide +kernel) (pa_cons (pv 4) pa_nil)) (pe_callB (call_reprD hr.free hr.room.units1) (by rfl) zr (by decide +kernel) (pa_cons (pe_lst (pa_cons (pv 1) (pa_cons (pv 3) (pa_cons (pv 5) (pa_cons (pe_callB call_len_seq (by rfl) T.b_len PySem.boot_len (pa_cons (pv 2) pa_nil)) pa_nil))))) pa_nil)) (nomark _))
    (pss_one (ps_ret pe_bl))
    pss_nil)
  (pss_cons (ps_set (i := 9) sc_Lright.nd rfl (by first | exact Or.inl rfl | exact Or.inr rfl) (pe_lst pa_nil))
  (pss_cons (ps_for PassesOwn.never rfl (pi_list (pv 2)) (pg_tup rfl (pgs_cons (pg_name (i := 6) sc_Lright.nd rfl (by first | exact Or.inl rfl | exact Or.inr rfl)) (pgs_cons (pg_name (i := 7) sc_Lright.nd rfl (by first | exact Or.inl rfl | exact Or.inr rfl)) (pgs_cons (pg_name (i := 8) sc_Lright.nd rfl (by first | exact Or.inl rfl | exact Or.inr rfl)) pgs_nil))))
    (pss_cons (ps_if (PW.pt (pw_or (pt_cmpR op_ne (C8.pe_mt t_constant hr.room (by decide) (pv 0) (pa_cons (pv 6) pa_nil)) (pv 7) (nomark _)) (pw_or (pt_cmpR (op_neD hr.room.units) (C8.pe_mt t_reads hr.room (by decide) (pv 0) (pa_cons (pv 6) pa_nil)) (pv 8) (nomark _)) (pw_or1 (pt_cmpR (op_neD hr.room.units) (pe_mtk kt_reads hr.room (by decide) (pv 0) (pk_cons (pv 6) pk_nil)) (pv 8) (nomark _))))))
      (pss_one (ps_ret pe_bl))
      pss_nil)
    (pss_one (ps_expr (pe_bm PySem.F.plainAttrs_list PySem.F.slot_list_extend PySem.F.type_list_extend mt_extend (pv 9) (pa_cons (pe_lc (own := [("_law_spot", 10)]) (g := gName 10) (tt := tYes) (by rfl) sc_Lright.nd (pi_range1 (by rfl) T.b_range (pa_cons (pe_callB call_len_seq (by rfl) T.b_len PySem.boot_len (pa_cons (pv 8) pa_nil)) pa_nil)) (blkOk_by (N := ["_law_made", "_law_dims", "_law_rows", "_law_base", "_law_told", "_law_words", "_law_word", "_law_number", "_law_some", "_law_due", "_law_spot", "_law_numbers_here", "_law_row"]) (sc := defScope s_Lright) (by decide +kernel)) (fun _ _ _ _ _ => (pg_name (i := 10) sc_Lright.nd rfl (by first | exact Or.inl rfl | exact Or.inr rfl))) (fun _ _ _ _ _ => pts_nil) (fun _ _ _ _ _ => (pe_tup (pa_cons (pv 6) (pa_cons (pv 10) pa_nil))))) pa_nil))))))
  (pss_cons (ps_set (i := 11) sc_Lright.nd rfl (by first | exact Or.inl rfl | exact Or.inr rfl) (pe_callTy (call_dictP rfl) (by rfl) zd (by decide +kernel) (pa_cons (pe_lc (own := [("_law_row", 12)]) (g := gName 12) (tt := tYes) (by rfl) sc_Lright.nd (pi_list (pv 2)) (blkOk_by (N := ["_law_made", "_law_dims", "_law_rows", "_law_base", "_law_told", "_law_words", "_law_word", "_law_number", "_law_some", "_law_due", "_law_spot", "_law_numbers_here", "_law_row"]) (sc := defScope s_Lright) (by decide +kernel)) (fun _ _ _ _ _ => (pg_name (i := 12) sc_Lright.nd rfl (by first | exact Or.inl rfl | exact Or.inr rfl))) (fun _ _ _ _ _ => pts_nil) (fun _ _ _ _ _ => (pe_slice (r := rSlA K) sl_tupA (pv 12) po_none (po_some pe_int)))) pa_nil)))
  (pss_one (ps_ret (pe_and (pe_cmpR (op_eqD hr.room.units) (C8.pe_mt0 t_all_reads hr.room (by decide) (pv 0)) (pe_callB cr_sorted2 (by rfl) T.b_sorted (by decide +kernel) (pa_cons (pv 9) pa_nil)) (nomark _)) (pe_one (pe_cmpR op_eq (pe_mtk kt_constant hr.room (by decide) (pv 0) (pk_cons (pe_ix ix_list (pv 5) pe_int (fun _ _ => rfl)) pk_nil)) (pe_dget hu (pv 11) (pe_ix ix_list (pv 5) pe_int (fun _ _ => rfl)) (fun _ _ => rfl)) (nomark _)))))))))))), ?_⟩
    have Os := O.srt
    have sl : (srt ts).length = ts.length := (srt_perm ts).length_eq
    have mem0 : ∀ {t : Tb}, t ∈ ts → t ∈ srt ts := fun h => (srt_perm ts).mem_iff.mpr h
    have esn := @sorted_names
    have eord := @sorted_named ts
    obtain ⟨S0, hS0⟩ : ∃ S0, S0 = srt ts := ⟨_, rfl⟩
    rw [← hS0] at S Os sl mem0 eord
    obtain ⟨dx, tt, kvs, h1, h2, h3⟩ := id S.ob
    have nf : ∀ {y : Str}, ¬ y = "_dimensions" → ¬ y = "_modulus" → ¬ y = "_tables" → (flds d md tt).lookup y = none := fun a b c => flds_no _ _ _ a b c
    have t6 := O.l6
    have t1 := O.l1
    have z4 : 4 ≤ sizeLine := by decide
    obtain ⟨xs, hx, hxd⟩ := id hlr
    have xl : xs.length = ts.length := by rw [dps_len hxd, List.length_map]
    -- told
    refine ⟨_, rfl, x, dx, _, rfl, h1, x, d, md, S0, rfl, S, _, rfl, x, dx, _, rfl, h1, x, d, md, S0, rfl, S, _, rfl, x, dx, _, rfl, h1, x, d, md, S0, rfl, S, fun pn H1 hpn s1 hn1 => ?_⟩
    refine ⟨_, rfl, x, dx, _, rfl, s1 _ _ h1, x, d, md, S0, rfl, S.mono s1, S0.length, rfl, by omega, z4, fun q1 hq1 => ?_⟩
    have s2 := same_tr s1 (snew (o := .lst [.int d, .int md, .ref pn, .int (S0.length : Nat)]) hq1)
    have q11 : (upd H1 q1 (.lst [.int d, .int md, .ref pn, .int (S0.length : Nat)])) q1 = some (.lst [.int d, .int md, .ref pn, .int (S0.length : Nat)]) := upd_same
    have hn2 := snew (o := .lst [.int d, .int md, .ref pn, .int (S0.length : Nat)]) hq1 _ _ hn1
    generalize upd H1 q1 (.lst [.int d, .int md, .ref pn, .int (S0.length : Nat)]) = H2 at s2 q11 hn2
    clear hn1 hpn hq1 s1
    -- words
    refine ⟨_, rfl, lr, rfl, ⟨_, Or.inl (Or.inl (s2 _ _ hx))⟩, fun D hD => ?_⟩
    refine lc_it (walk_list (K := K) (a := lr) (xs := xs)) (fun i H' => H' D = some (.lst (((ts.map (·.n)).take i).map V.str)) ∧ Same H2 H') ⟨upd_same, snew hD⟩ (fun i H' _ ⟨_, b⟩ => Or.inl (Or.inl (b _ _ (s2 _ _ hx)))) ?_ ?_
    · rintro i y _ Hi hi ⟨b1, b2⟩ ⟨rfl, hy⟩
      obtain ⟨tb, a, l, ys, htb, rfl, hta, _⟩ := tb_at (dpsm (same_tr s2 b2) _ _ hxd) hy
      refine ⟨a, _, rfl, hta, rfl, _, _, rfl, _, _, rfl, _, _, rfl, rfl, rfl, yes_if ?_⟩
      refine ⟨_, rfl, _, b1, small1000 (by rw [List.length_map, List.length_take, List.length_map]; omega), ?_, swrite b2 hD⟩
      rw [upd_same, List.take_add_one, List.getElem?_map, htb, List.map_append]
      rfl
    rintro H3 ⟨b1, b2⟩
    rw [xl, List.take_of_length_le (by rw [List.length_map]; exact Nat.le_refl _)] at b1
    refine ⟨D, ts.map (·.n), rfl, Or.inl (Or.inl b1), by rw [List.length_map]; omega, fun ys Ts perm so hTs => ?_⟩
    have ey : ys = S0.map (·.n) := by rw [hS0]; exact esn perm so
    subst ey
    have s3 := same_tr s2 (same_tr b2 (snew (o := .lst ((S0.map (·.n)).map V.str)) hTs))
    have b3 := same_tr b2 (snew (o := .lst ((S0.map (·.n)).map V.str)) hTs)
    have Ts3 : (upd H3 Ts (.lst ((S0.map (·.n)).map V.str))) Ts = some (.lst ((S0.map (·.n)).map V.str)) := upd_same
    have q13 := b3 _ _ q11
    have hn3 := b3 _ _ hn2
    generalize upd H3 Ts (.lst ((S0.map (·.n)).map V.str)) = H4 at s3 Ts3 q13 hn3
    clear b1 b2 b3 q11 hn2 hD hTs perm so s2
    -- repr
    obtain ⟨w1, w2, w3, w4⟩ := (rt1_shw (d := d) (m := md) (ns := S0.map (·.n)) ⟨O.d1, O.d3⟩ ⟨O.m2, O.mx⟩ (fun y hy => by
      obtain ⟨t, ht, rfl⟩ := List.mem_map.mp hy
      exact Os.ok.names t ht) (by rw [List.length_map]; omega)).asks (by decide) (by decide)
    have en : (S0.map fun t => V.str t.n) = (S0.map (·.n)).map V.str := by rw [List.map_map]; rfl
    have dn : ∀ {H : Hp} {a : Addr}, H a = some (.lst ((S0.map (·.n)).map V.str)) → Dp K H (.ref a) (.list ((S0.map (·.n)).map .str)) := fun h => .lst (Or.inl (Or.inl h)) (strs_dps _)
    refine ⟨_, rfl, .ref q1, rt1 d md (S0.map fun t : Tb => t.n), rfl, .lst (Or.inl (Or.inl q13)) (.cons (.int _) (.cons (.int _) (.cons (dn (by rw [← en]; exact hn3)) (.cons (by rw [List.length_map]; exact .int _) .nil)))), w1, w2, w3, w4, ?_⟩
    refine ⟨_, rfl, _, rfl, _, rfl, _, rfl, lr, _, rfl, Or.inl (Or.inl (Or.inl (s3 _ _ hx))), z4, fun q2 hq2 => ?_⟩
    refine ⟨.ref q2, rt1 d md (S0.map fun t : Tb => t.n), rfl, .lst (Or.inl (Or.inl upd_same)) (.cons (.int _) (.cons (.int _) (.cons (dn (snew hq2 _ _ Ts3)) (.cons (by rw [List.length_map, sl, ← xl]; exact .int _) .nil)))), w1, w2, w3, w4, rfl, ?_⟩
    have s4 := same_tr s3 (snew (o := .lst [.int d, .int md, .ref Ts, .int (xs.length : Nat)]) hq2)
    have Ts4 := snew (o := .lst [.int d, .int md, .ref Ts, .int (xs.length : Nat)]) hq2 _ _ Ts3
    refine ⟨_, rfl, ?_⟩
    rw [decide_eq_true rfl]
    refine iteF ?_
    generalize upd H4 q2 (.lst [.int d, .int md, .ref Ts, .int (xs.length : Nat)]) = H5 at s4 Ts4
    clear s3 Ts3 q13 hn3 hq2 w1 w2 w3 w4 dn en
    -- constants and reads, one by one
    refine ⟨Nat.zero_le _, fun du hdu => ?_⟩
    have s5 := same_tr s4 (snew (o := .lst []) hdu)
    refine ⟨_, rfl, lr, rfl, ⟨_, Or.inl (Or.inl (s5 _ _ hx))⟩, ?_⟩
    refine for_it (walk_list (K := K) (a := lr) (xs := xs)) (fun i σ H' => ∃ y6 y7 y8, σ = [some (.ref x), some (.int d), some (.ref lr), some (.int md), some (.ref q1), some (.ref Ts), y6, y7, y8, some (.ref du), none, none, none] ∧ ∃ (Bq : Hp) (zs : List V), Same H5 Bq ∧ Bq du = none ∧ Same Bq H' ∧ H' du = some (.lst zs) ∧ Paired (T2At Bq) zs ((named (ts.take i)).map fun z => (z.1, (z.2 : Int))))
      ⟨none, none, none, rfl, H5, [], same_refl, hdu, snew hdu, upd_same, .nil⟩ (fun i σ H' _ ⟨_, _, _, _, Bq, _, b1, _, b3, _⟩ => Or.inl (Or.inl (b3 _ _ (b1 _ _ (s4 _ _ hx))))) ?_ ?_
    · rintro i y σ _ H6 hi ⟨y6, y7, y8, rfl, Bq, zs, b1, b2, b3, b4, b5⟩ ⟨rfl, hy⟩
      have sA := same_tr s4 (same_tr b1 b3)
      obtain ⟨tb, a, l, os, htb, rfl, hta, hlo, hdo⟩ := tb_at (dpsm sA _ _ hxd) hy
      have htm := List.mem_of_getElem? htb
      have o12 := few_reads O.ok htm
      have ol : os.length = tb.rs.length := by rw [dps_len hdo, List.length_map]
      have hmem : tb.n ∈ S0.map (·.n) := List.mem_map.mpr ⟨tb, mem0 htm, rfl⟩
      have hf := find_nodup' Os.ok.nodup (mem0 htm)
      have shl : SeqAt.shaped (.list (tb.rs.map Rd1.d)) = true := (Lay.list (k := 3) (.map fun rd hrd => ⟨(lay_rd (O.ok.reads tb htm rd hrd)).lay, Nat.le_trans (lay_rd (O.ok.reads tb htm rd hrd)).dep (by decide)⟩)).shaped (by decide)
      refine ⟨a, _, rfl, hta, rfl, _, _, rfl, _, _, rfl, _, _, rfl, rfl, ?_⟩
      refine ⟨_, rfl, x, dx, _, rfl, sA _ _ h1, nf (by decide +kernel) (by decide +kernel) (by decide +kernel), _, rfl, x, d, md, S0, tb.n, tb, rfl, S.mono sA, hmem, hf, fun H7 s7 => ⟨_, rfl, rfl, ?_⟩⟩
      refine ⟨_, rfl, ?_⟩
      rw [decide_eq_true rfl]
      refine iteF ?_
      have sB := same_tr sA s7
      refine ⟨_, rfl, x, dx, _, rfl, sB _ _ h1, nf (by decide +kernel) (by decide +kernel) (by decide +kernel), _, rfl, H7, x, d, md, S0, tb.n, tb, rfl, same_refl, S.mono sB, hmem, hf, fun p8 H8 rs8 hp8 s8 hl8 hd8 => ?_⟩
      refine ⟨_, rfl, .list (tb.rs.map Rd1.d), .list (tb.rs.map Rd1.d), .lst (Or.inl (Or.inl hl8)) (dpsm s8 _ _ hd8), .lst (sql (same_tr s7 s8) hlo) (dpsm (same_tr s7 s8) _ _ hdo), shl, shl, ?_⟩
      rw [SeqAt.eqv_refl _ (SeqAt.canLay_of_shaped shl)]
      refine ⟨_, rfl, iteF ?_⟩
      have sC := same_tr sB s8
      refine ⟨_, rfl, x, dx, _, rfl, sC _ _ h1, nf (by decide +kernel) (by decide +kernel) (by decide +kernel), _, rfl, H8, x, d, md, S0, tb.n, tb, rfl, same_refl, S.mono sC, hmem, hf, fun p9 H9 rs9 hp9 s9 hl9 hd9 => ?_⟩
      have s79 := same_tr s7 (same_tr s8 s9)
      refine ⟨_, rfl, .list (tb.rs.map Rd1.d), .list (tb.rs.map Rd1.d), .lst (Or.inl (Or.inl hl9)) (dpsm s9 _ _ hd9), .lst (sql s79 hlo) (dpsm s79 _ _ hdo), shl, shl, ?_⟩
      rw [SeqAt.eqv_refl _ (SeqAt.canLay_of_shaped shl)]
      refine ⟨_, rfl, iteF ?_⟩
      have b39 := same_tr b3 s79
      have du9 := s79 _ _ b4
      have hlo9 := sql s79 hlo
      clear hl8 hd8 hp8 hl9 hd9 hp9 sA sB sC s7 s8 s9 s79 b3 b4 hlo hdo hta hf
      -- the named reads
      refine ⟨_, rfl, Or.inl ⟨rfl, _, Or.inl (Or.inl du9)⟩, _, rfl, l, os, rfl, Or.inl hlo9, _, rfl, by omega, by omega, fun D2 hD2 => ?_⟩
      have bD2 := free_of b39 hD2
      have nDd : D2 ≠ du := (ne_of_none du9 hD2).symm
      refine lc_it walk_range (fun j H' => ∃ (B2 : Hp) (es : List V), Same Bq B2 ∧ B2 D2 = none ∧ B2 du = none ∧ Same B2 H' ∧ H' D2 = some (.lst es) ∧ H' du = some (.lst zs) ∧ Paired (T2At B2) es ((List.range j).map fun k : Nat => (tb.n, ((k : Nat) : Int)))) ⟨Bq, [], same_refl, bD2, b2, same_tr b39 (snew hD2), upd_same, snew hD2 _ _ du9, .nil⟩ (fun _ _ _ _ => True.intro) ?_ ?_
      · rintro j y _ Hj hj ⟨B2, es, c1, c2, c3, c4, c5, c6, c7⟩ ⟨rfl, rfl⟩
        refine ⟨rfl, yes_if ?_⟩
        refine ⟨_, rfl, _, rfl, (by show 2 ≤ sizeLine; decide), fun u hu2 => ?_⟩
        dsimp only
        rw [Int.zero_add]
        have bu := free_of c4 hu2
        have nuD : D2 ≠ u := ne_of_none c5 hu2
        have nud : du ≠ u := ne_of_none c6 hu2
        have k1 : (upd B2 u (.tup [.str tb.n, .int (j : Nat)])) D2 = none := by rw [upd_ne nuD]; exact c2
        have k2 : (upd B2 u (.tup [.str tb.n, .int (j : Nat)])) du = none := by rw [upd_ne nud]; exact c3
        have lj : es.length = j := by rw [Paired.length c7, List.length_map, List.length_range]
        refine ⟨es, by rw [upd_ne nuD]; exact c5, small1000 (by omega), upd B2 u (.tup [.str tb.n, .int (j : Nat)]), es ++ [.ref u], same_tr c1 (snew bu), k1, k2, swrite (sgrow c4) k1, upd_same, by rw [upd_ne nDd.symm, upd_ne nud]; exact c6, ?_⟩
        rw [List.range_succ, List.map_append]
        exact pair_snoc ⟨u, rfl, upd_same⟩ (pair_mono (fun _ _ h => h.mono (snew bu)) c7)
      rintro H10 ⟨B2, es, c1, c2, c3, c4, c5, c6, c7⟩
      rw [ol, Int.toNat_natCast] at c7
      have zl : zs.length ≤ 12 := by
        rw [Paired.length b5, List.length_map, named_len]
        refine Nat.le_trans ?_ O.ok.few
        conv => rhs; rw [← List.take_append_drop i ts, List.map_append, List.sum_append]
        omega
      have el : es.length ≤ 12 := by
        rw [Paired.length c7, List.length_map, List.length_range]
        exact o12
      refine ⟨du, D2, zs, es, rfl, rfl, c6, c5, Nat.le_trans (show zs.length + es.length ≤ 100 by omega) (by decide), ?_⟩
      refine ⟨_, _, _, rfl, B2, zs ++ es, same_tr b1 c1, c3, swrite c4 c3, upd_same, ?_⟩
      rw [named_take htb, List.map_append]
      refine pair_app (pair_mono (fun _ _ h => h.mono c1) b5) ?_
      unfold nam1
      rw [List.map_map]
      exact c7
    · rintro σ H6 ⟨y6, y7, y8, rfl, Bq, zs, b1, b2, b3, b4, b5⟩
      rw [xl, List.take_length] at b5
      have s6 := same_tr s4 (same_tr b1 b3)
      -- the constants by name
      refine ⟨_, rfl, lr, rfl, ⟨_, Or.inl (Or.inl (s6 _ _ hx))⟩, fun D hD => ?_⟩
      refine lc_it (walk_list (K := K) (a := lr) (xs := xs)) (fun i H' => ∃ (B2 : Hp) (ps : List Addr), Same H6 B2 ∧ B2 D = none ∧ Same B2 H' ∧ H' D = some (.lst (ps.map V.ref)) ∧ Paired (fun p (t : Tb) => B2 p = some (.tup [.str t.n, .int t.c])) ps (ts.take i)) ⟨H6, [], same_refl, hD, snew hD, upd_same, .nil⟩ (fun i H' _ ⟨_, _, c1, _, c3, _⟩ => Or.inl (Or.inl (c3 _ _ (c1 _ _ (s6 _ _ hx))))) ?_ ?_
      · rintro i y _ Hi hi ⟨B2, ps, c1, c2, c3, c4, c5⟩ ⟨rfl, hy⟩
        obtain ⟨tb, a, l, os, htb, rfl, hta, _⟩ := tb_at (dpsm (same_tr s6 (same_tr c1 c3)) _ _ hxd) hy
        refine ⟨rfl, yes_if ?_⟩
        refine ⟨_, rfl, 2, rfl, a, _, rfl, hta, fun h => absurd (show (2 : Nat) = 3 from h.2) (by decide), fun _ u hu2 => ?_⟩
        have ec : cutV [V.str tb.n, V.int tb.c, V.ref l] none (some 2) = [V.str tb.n, V.int tb.c] := rfl
        rw [ec]
        have bu := free_of c3 hu2
        have nuD : D ≠ u := ne_of_none c4 hu2
        have k1 : (upd B2 u (.tup [.str tb.n, .int tb.c])) D = none := by rw [upd_ne nuD]; exact c2
        have lp : ps.length ≤ 6 := by
          rw [Paired.length c5, List.length_take]
          omega
        refine ⟨ps.map V.ref, by rw [upd_ne nuD]; exact c4, small1000 (by rw [List.length_map]; omega), upd B2 u (.tup [.str tb.n, .int tb.c]), ps ++ [u], same_tr c1 (snew bu), k1, swrite (sgrow c3) k1, by rw [upd_same, List.map_append]; rfl, ?_⟩
        rw [List.take_add_one, htb]
        exact pair_snoc (F := fun p (t : Tb) => (upd B2 u (.tup [.str tb.n, .int tb.c])) p = some (.tup [.str t.n, .int t.c])) upd_same (pair_mono (fun _ _ h => snew bu _ _ h) c5)
      rintro H7 ⟨B2, ps, c1, c2, c3, c4, c5⟩
      rw [xl, List.take_length] at c5
      have pp : ∀ {H : Hp} {ps : List Addr} {us : List Tb}, Same B2 H → Paired (fun p (t : Tb) => B2 p = some (.tup [.str t.n, .int t.c])) ps us → Paired (fun p (kv : Key × V) => SqT K H p [kV kv.1, kv.2]) ps (numsK us) := by
        intro H ps us e h
        induction h with
        | nil => exact .nil
        | cons h1 _ ih => exact .cons (Or.inl (Or.inl (e _ _ h1))) ih
      refine ⟨D, ps, numsK ts, rfl, Or.inl (Or.inl c4), pp c3 c5, fun dn hdn => ?_⟩
      rw [nums_merge O.ok.nodup]
      have s7 := same_tr s6 (same_tr c1 (same_tr c3 (snew (o := .dK (numsK ts)) hdn)))
      have dn7 : (upd H7 dn (.dK (numsK ts))) dn = some (.dK (numsK ts)) := upd_same
      have du7 := snew (o := .dK (numsK ts)) hdn _ _ (c3 _ _ (c1 _ _ b4))
      have b57 := pair_mono (G := T2At (upd H7 dn (.dK (numsK ts)))) (fun _ _ h => h.mono (same_tr b3 (same_tr c1 (same_tr c3 (snew hdn))))) b5
      have Ts7 := snew (o := .dK (numsK ts)) hdn _ _ (c3 _ _ (c1 _ _ (b3 _ _ (b1 _ _ Ts4))))
      generalize upd H7 dn (.dK (numsK ts)) = H8 at s7 dn7 du7 b57 Ts7
      clear c1 c2 c3 c4 c5 pp hD hdn b1 b2 b3 b4 b5 s6 s5 s4 Ts4 hdu
      -- all_reads
      refine ⟨_, rfl, x, dx, _, rfl, s7 _ _ h1, nf (by decide +kernel) (by decide +kernel) (by decide +kernel), x, d, md, S0, rfl, S.mono s7, Os.ok.nodup, Nat.le_trans Os.ok.few (by decide), fun p9 H9 hp9 s9 L9 => ?_⟩
      obtain ⟨k, k1, k2⟩ := t2_key (pair_mono (fun _ _ h => h.mono s9) b57)
      refine ⟨_, rfl, du, zs, k, rfl, Or.inl (Or.inl (s9 _ _ du7)), fun z hz => ?_, fun ys p10 so perm hp10 => ?_⟩
      · obtain ⟨a, e1, e2⟩ := k1 z hz
        exact ⟨a, e1, Or.inl (Or.inl e2)⟩
      have s10 := snew (o := .lst ys) hp10
      have e10 := eord O.ok.nodup so (by rw [← k2]; exact perm.map k)
      have d10 : DpAll K (upd H9 p10 (.lst ys)) ys ((named S0).map nrD) := t2_dps (fun y hy => (k1 y (perm.mem_iff.mp hy)).mono s10) e10
      have shn : SeqAt.shaped (.list ((named S0).map nrD)) = true := (Lay.list (k := 3) (.map fun z hz => ⟨(lay_named Os.ok hz).lay, Nat.le_trans (lay_named Os.ok hz).dep (by decide)⟩)).shaped (by decide)
      refine ⟨_, _, (L9.grow s10).dp, .lst (Or.inl (Or.inl upd_same)) d10, shn, shn, ?_⟩
      rw [SeqAt.eqv_refl _ (SeqAt.canLay_of_shaped shn)]
      refine ⟨_, rfl, iteT ?_⟩
      have s11 := same_tr s7 (same_tr s9 s10)
      have Ts11 := s10 _ _ (s9 _ _ Ts7)
      have dn11 := s10 _ _ (s9 _ _ dn7)
      generalize upd H9 p10 (.lst ys) = H11 at s11 Ts11 dn11
      clear e10 d10 k1 k2 so perm hp10 s10 L9 s9 hp9 b57 du7 s7
      -- the first name
      obtain ⟨t0, tr, e0⟩ : ∃ t0 tr, S0 = t0 :: tr := by
        cases hs : S0 with
        | nil => rw [hs] at sl; rw [← sl] at t1; cases t1
        | cons a b => exact ⟨a, b, rfl⟩
      have m0 : t0 ∈ S0 := by rw [e0]; exact List.mem_cons_self
      have m1 : t0 ∈ ts := (srt_perm ts).mem_iff.mp (hS0 ▸ m0)
      have at0 : atI ((S0.map (·.n)).map V.str) 0 = some (V.str t0.n) := by
        rw [e0]
        exact atI_nat (j := 0) rfl
      refine ⟨_, rfl, x, dx, _, rfl, s11 _ _ h1, nf (by decide +kernel) (by decide +kernel) (by decide +kernel), _, rfl, Ts, _, 0, _, rfl, rfl, Or.inl (Or.inl Ts11), at0, x, d, md, S0, t0.n, t0, rfl, S.mono s11, List.mem_map.mpr ⟨t0, m0, rfl⟩, find_nodup' Os.ok.nodup m0, fun H12 s12 => ?_⟩
      have g := DGet.k (k := Sum.inr t0.n) (s12 _ _ dn11)
      rw [nums_val O.ok.nodup m1] at g
      refine ⟨_, rfl, _, rfl, Ts, _, 0, _, rfl, rfl, Or.inl (Or.inl (s12 _ _ Ts11)), at0, dn, _, rfl, g, rfl, ?_⟩
      rw [decide_eq_true rfl]
      exact q _ (same_tr s11 s12)
end
end Fr

namespace Fr
open PySem PySem.Spec PyProof.Rows L2
def kwS {α : Type} : List α → List α → List α → List α
  | [x], _, [m, t, d] => [x, d, t, m]
  | _, _, _ => []
theorem kwS_rel {vs ds zs : List V} {us its ws : List Value} (h1 : Vals vs us) (_ : Vals ds its) (h3 : Vals zs ws) : Vals (kwS vs ds zs) (kwS us its ws) := by
  cases h1 with
  | nil => cases h3 <;> exact .nil
  | cons a1 a2 =>
    cases a2 with
    | cons _ _ => exact .nil
    | nil =>
      cases h3 with
      | nil => exact .nil
      | cons b1 b2 =>
        cases b2 with
        | nil => exact .nil
        | cons b3 b4 =>
          cases b4 with
          | nil => exact .nil
          | cons b5 b6 =>
            cases b6 with
            | nil => exact .cons a1 (.cons b5 (.cons b3 (.cons b1 .nil)))
            | cons _ _ => exact .nil
structure MakK (P : Program) (w : World) (K : PySem.W.Frag) (mg : Str → Option Value) (base : Heap) (k : Nat) (x : Str) (C : Addr) (sp : Sp) (ks : List Str) (gV : List V → List V → List V) : Prop where
  ex : ∃ (f : Addr) (fd : FuncData) (ps : List Str) (g : List Value → List Value → List Value), Mk K C f ∧ FnOk P w K mg base CX0 k f fd ps sp ∧ mg x = some (.ref C) ∧ KBn K fd ps 1 ks g gV
theorem pe_mkk {X : Cx} {k j : Nat} {x : Str} {C : Addr} {sp : Sp} {ks : List Str} {gV : List V → List V → List V} {kws : List Keyword} {tk : TA} {p pos : Pos} (c : MakK X.prog X.w X.K X.mg X.base k x C sp ks gV) (hr : Room j X.A) (hk : k + 1 ≤ j) (hg : Gl X x) (hkw : PK X kws tk)
    (hall : (backToKw pos (keywordEach kws X.env)).all (·.1.isSome) = true := by rfl) (hks : (backToKw pos (keywordEach kws X.env)).filterMap (·.1) = ks := by rfl) (hdb : (x == ("__debug__" : Str)) = false := by decide)
    (hpl : ((backTo pos (starEach [] X.env)).any (·.1) || (backToKw pos (keywordEach kws X.env)).any (·.1.isNone)) = false := by rfl) :
    PE X (.Call (.Name x p) [] kws pos) (tMakeK C 0 ks.length sp gV C8.E0 tNil tk) := by
  obtain ⟨f, fd, ps, g, M, F, hm, hb⟩ := c.ex
  exact pe_makeK0 M F (hr.mono hk) hg hm hb pass0 hkw hall hks hdb hpl
section
variable {P : Program} {w : World} {K : PySem.W.Frag} {mg : Str → Option Value} {base : Heap}
def spSysNo (K : PySem.W.Frag) (C : Addr) : Sp := fun vs H Q _ => ∃ (a : Addr) (y : V) (t : String) (d m : Int) (ts : List Tb), vs = [.ref a, y] ∧ SysAt K C H a d m ts ∧ Beside H y t ∧ PySem.W.kitOne K (.type t) (.ref C) = some false ∧ Q (.bl false) H
theorem ok_eqNo {f C : Addr} {fd : FuncData} (F : Fun K "__eq__" "System.__eq__" s_System_eq f fd) (T : Txt mg) (TC : TxtC K mg C) (zi : mg "isinstance" = none) : FnOk P w K mg base CX0 1 f fd ["self", "other"] (spSysNo K C) := by
  refine F.ok sc_System_eq (fun vs H Q E h => ?_) (fun cdv A outer s H vs Q E hr h => ?_)
  · obtain ⟨a, y, t, d, m, ts, rfl, _⟩ := h
    rfl
  · obtain ⟨a, y, t, d, m, ts, rfl, S, hb, hk, q⟩ := h
    refine ⟨_, (pss_one (ps_ret (pe_and (pe_callB call_isT (by rfl) zi (by decide +kernel) (pa_cons (pv 1) (pa_cons (pe_glob (v := .ref C) (by rfl) TC.g_System rfl) pa_nil))) (pe_and (pe_cmpR op_eq (pe_fld (pv 0) rfl) (pe_fld (pv 1) rfl) (nomark _)) (pe_and (pe_cmpR op_eq (pe_fld (pv 0) rfl) (pe_fld (pv 1) rfl) (nomark _)) (pe_one (pe_cmpR (op_eqKv hr.units1) (pe_fld (pv 0) rfl) (pe_fld (pv 1) rfl) (nomark _)))))))), ?_⟩
    exact ⟨_, rfl, y, .type t, C, false, rfl, hb.ty, hk, _, rfl, iteF q⟩
theorem eq_no {C a : Addr} {H : Hp} {y : V} {t : String} {d m : Int} {ts : List Tb} {Q : VK} (S : SysAt K C H a d m ts) (hb : Beside H y t) (nf : PySem.W.notFirst K C (.type t) = true) (hk : PySem.W.kitOne K (.type t) (.ref C) = some false) (q : Q (.bl false) H) : rEqOut K C (spSysNo K C) (.ref a) y H Q := by
  obtain ⟨dx, tt, kvs, h1, _⟩ := id S.ob
  exact ⟨a, dx, _, t, rfl, h1, hb, nf, a, y, t, d, m, ts, rfl, S, hb, hk, _, rfl, q⟩
theorem eq_sysG {C a b : Addr} {H : Hp} {d m d' m' : Int} {ts us : List Tb} {Q : VK} (S : SysAt K C H a d m ts) (S' : SysAt K C H b d' m' us) (O : OkT d ts) (O' : OkT d' us) (q : Q (.bl (decide (d = d') && (decide (m = m') && tabEq ts us))) H) : rEqOwn C (spSysEq K C) (.ref a) (.ref b) H Q := by
  obtain ⟨dx, t, kvs, h1, _⟩ := id S.ob
  obtain ⟨dx', t', kvs', h1', _⟩ := id S'.ob
  exact ⟨a, b, dx, dx', _, _, rfl, rfl, h1, h1', a, b, d, m, d', m', ts, us, rfl, S, S', fun t ht => (lay_k O ht).shaped (by decide), fun t ht => (lay_k O' ht).shaped (by decide), _, rfl, q⟩
/-- all but lists stay -/
def NL (H H' : Hp) : Prop := ∀ b o, H b = some o → (∀ xs, o ≠ .lst xs) → H' b = some o
theorem NL.of {H H' : Hp} (e : Same H H') : NL H H' := fun b o h _ => e b o h
theorem NL.tr {A B C : Hp} (a : NL A B) (b : NL B C) : NL A C := fun x o h n => b x o (a x o h n) n
theorem NL.put {H : Hp} {l : Addr} {xs : List V} {o : HO} (h : H l = some (.lst xs)) : NL H (upd H l o) := fun b u e n => by
  rw [upd_ne fun z => by rw [z, h] at e; cases e; exact n _ rfl]
  exact e
theorem NL.st {H H' : Hp} (h : NL H H') : ST H H' := fun b o e t => h b o e fun xs z => by rw [z] at t; cases t
theorem SysAt.nl {C : Addr} {H H' : Hp} {s : Addr} {d m : Int} {ts : List Tb} (e : NL H H') (h : SysAt K C H s d m ts) : SysAt K C H' s d m ts := by
  obtain ⟨dx, t, kvs, h1, h2, h3⟩ := h.ob
  exact ⟨dx, t, kvs, e _ _ h1 (fun xs z => by cases z), e _ _ h2 (fun xs z => by cases z), kvt e.st h3⟩
theorem RowAt.sd {B B' : Hp} (e : SD B B') {z : V} {y : Tb × Addr} (h : RowAt K B z y) : RowAt K B' z y := by
  obtain ⟨u, es, h1, h2, h3, h4⟩ := h
  exact ⟨u, es, h1, sqtd e h2, e _ _ h3 rfl, dpsd e _ _ h4⟩
theorem RowsL.to {B H H' : Hp} {r p : Addr} {ts : List Tb} (h : RowsL K B p ts) (s : Same B H) (n : B r = none) (x : LamX.ExtN H H') : RowsL K (Fr.bs H' r) p ts := by
  obtain ⟨zs, tls, h1, h2, h3, h4⟩ := h
  have e := sd_to (r := r) s n x
  exact ⟨zs, tls, h1, e _ _ h2 rfl, _root_.L2.Paired.mapP h3 fun _ _ r => r.sd e, h4⟩
theorem same_cut {r : Addr} {m : Nat} {B H : Hp} (R : RS r m B H) : Same B (cutr H r) := fun b o e => by
  rw [cutr_ne (ne_of_none e R.n)]
  exact R.s b o e
theorem paired_at {α β : Type} {F : α → β → Prop} : ∀ {xs : List α} {ys : List β} {i : Nat} {x : α}, Paired F xs ys → xs[i]? = some x → ∃ y, ys[i]? = some y ∧ F x y
  | [], _, _, _, h, e => by cases e
  | x :: xs, _, 0, _, h, e => by
    cases h with
    | cons h1 h2 => cases e; exact ⟨_, rfl, h1⟩
  | x :: xs, _, i + 1, z, h, e => by
    cases h with
    | cons h1 h2 =>
      obtain ⟨y, a, b⟩ := paired_at (i := i) h2 (by simpa using e)
      exact ⟨y, by simpa using a, b⟩
end
end Fr

namespace Fr
open PySem PySem.Spec PyProof.Rows L2
abbrev s_law : Stmt := topS 29
theorem sc_law : FnScope ["_law_script", "_law_rng_here", "_law_lap", "_law_dims", "_law_many", "_law_base", "_law_rows", "_law_kept", "_law_made", "_law_named", "_law_plain", "_law_others", "_law_same", "_law_row", "_law_turn", "_law_bare"] ["_law_script"] (defScope s_law) := ⟨rfl, rfl, rfl, by decide +kernel, rfl, by decide +kernel, by decide +kernel⟩
-- slots: 0 _law_script, 1 _law_rng_here, 2 _law_lap, 3 _law_dims, 4 _law_many, 5 _law_base, 6 _law_rows, 7 _law_kept, 8 _law_made, 9 _law_named, 10 _law_plain, 11 _law_others, 12 _law_same, 13 _law_row, 14 _law_turn, 15 _law_bare
theorem rows_shw {d m : Int} {ts : List Tb} (O : Sys1 d m ts) : Shw (.list (ts.map Tb.d)) 6 14000 := Shw.list ((ShwA.map fun t ht => shw_tb O ht).mono (Nat.le_refl _) (by have := O.l6; omega))
theorem sum_rows : ∀ tls : List (Tb × Addr), ((tls.map fun v : Tb × Addr => ((v.1.rs.length : Nat) : Int)).sum) = (((((tls.map (·.1)).map fun t : Tb => t.rs.length).sum : Nat)) : Int)
  | [] => rfl
  | v :: tls => by
    rw [List.map_cons, List.sum_cons, List.map_cons, List.map_cons, List.sum_cons, sum_rows tls]
    omega
theorem srt1 (t : Tb) : srt [t] = [t] := List.perm_singleton.mp (srt_perm [t])
def mn12 (n : Nat) : List Rd1 := (List.range n).map fun k : Nat => ⟨"a", [1], 1 + ((k : Nat) : Int) % 9⟩
def tbA : Tb := ⟨"a", 0, mn12 12⟩
theorem ok_A : OkSys 1 1000003 [tbA] := by
  refine ⟨by decide, by decide, by decide, by decide, by decide, ⟨?_, by decide +kernel, by decide +kernel, ?_, ?_⟩⟩
  · intro t ht
    rw [List.mem_singleton.mp ht]
    decide +kernel
  · intro t ht r hr
    rw [List.mem_singleton.mp ht] at hr
    exact (show ∀ r ∈ mn12 12, isRead 1 r = true by decide +kernel) r hr
  · intro t ht r hr
    rw [List.mem_singleton.mp ht] at hr
    exact (show ∀ r ∈ mn12 12, r.t ∈ [tbA].map (·.n) by decide +kernel) r hr
def bare2 : List Tb := [⟨"rows", 0, []⟩, ⟨"rowa", 0, []⟩]
theorem ok_bare2 {d : Int} (h1 : 1 ≤ d) (h3 : d ≤ 3) : OkSys d 1000003 bare2 := by
  refine ⟨h1, h3, by decide, by decide, by decide, ⟨by decide +kernel, by decide +kernel, by decide +kernel, ?_, ?_⟩⟩
  · intro t ht r hr
    unfold bare2 at ht
    simp only [List.mem_cons, List.not_mem_nil, or_false] at ht
    rcases ht with rfl | rfl <;> cases hr
  · intro t ht r hr
    unfold bare2 at ht
    simp only [List.mem_cons, List.not_mem_nil, or_false] at ht
    rcases ht with rfl | rfl <;> cases hr
theorem bare2_names : (srt bare2).map (fun t : Tb => t.n) = (["rowa", "rows"] : List Str) :=
  List.Perm.eq_of_pairwise (fun _ _ _ _ h k => str_antisymm h k) (srt_pw bare2) (.cons (fun y hy => by rw [List.mem_singleton.mp hy]; decide +kernel) (.cons (fun _ h => by cases h) .nil)) (((srt_perm bare2).map fun t : Tb => t.n).trans (.swap _ _ _))
/-- what a lap keeps of the systems and the rows -/
structure Lap (K : PySem.W.Frag) (C : Addr) (B : Hp) (rp x y z : Addr) (d m : Int) (ts : List Tb) : Prop where
  rows : RowsL K B rp ts
  sx : SysAt K C B x d m (srt ts)
  sy : SysAt K C B y d m (srt ts)
  sz : SysAt K C B z d 1000003 (srt ts)
theorem Lap.mono {K : PySem.W.Frag} {C : Addr} {B B' : Hp} {rp x y z : Addr} {d m : Int} {ts : List Tb} (h : Lap K C B rp x y z d m ts) (e : Same B B') : Lap K C B' rp x y z d m ts := ⟨h.rows.mono e, h.sx.mono e, h.sy.mono e, h.sz.mono e⟩
theorem paired_at' {α β : Type} {F : α → β → Prop} : ∀ {xs : List α} {ys : List β} {i : Nat} {y : β}, Paired F xs ys → ys[i]? = some y → ∃ x, xs[i]? = some x ∧ F x y
  | [], _, _, _, h, e => by cases h; cases e
  | x :: xs, _, 0, _, h, e => by
    cases h with
    | cons h1 h2 => cases e; exact ⟨_, rfl, h1⟩
  | x :: xs, _, i + 1, z, h, e => by
    cases h with
    | cons h1 h2 =>
      obtain ⟨y, a, b⟩ := paired_at' (i := i) h2 (by simpa using e)
      exact ⟨y, by simpa using a, b⟩
theorem dpdX {K : PySem.W.Frag} {H H' : Hp} (x : LamX.ExtN H H') (d : PyData) (v : V) (h : Dp K H v d) : Dp K H' v d := dpd (SD.ext x) d v h
theorem rng_same {H H' : Hp} {r : Addr} {m : Nat} (h : RngOk H r m) (s : Same H H') : RngOk H' r m := by
  obtain ⟨a, b, c, e, n⟩ := h
  exact ⟨a, b, c, s _ _ e, n⟩
section
variable {P : Program} {w : World} {K : PySem.W.Frag} {mg : Str → Option Value} {base : Heap}
def spLaw1 (K : PySem.W.Frag) (TT : List (Addr × Str)) : Sp := fun vs H Q _ => ∃ (a : Addr) (ns : List Int), vs = [.ref a] ∧ SqL K H a (ns.map V.int) ∧ ns.length ≤ 63 ∧ LamX.Tabs TT H ∧ ∀ H', Q (.bl true) H'
theorem ok_law1 {f C : Addr} {fd : FuncData} {TT : List (Addr × Str)} (F : Fun K "law" "law" s_law f fd) (T : Txt mg) (zr : mg "repr" = none) (zs : mg "sum" = none) (TC : TxtC K mg C) (nfl : PySem.W.notFirst K C (.type "list") = true) (nfs : PySem.W.notFirst K C (.type "str") = true) (nfi : PySem.W.notFirst K C (.type "int") = true)
    (kl : PySem.W.kitOne K (.type "list") (.ref C) = some false) (ks : PySem.W.kitOne K (.type "str") (.ref C) = some false) (ki : PySem.W.kitOne K (.type "int") (.ref C) = some false)
    (c_Lrng : C8.Cal P w K mg base 1 "_law_rng" (spRng K) []) (c_Ldraw : C8.Cal P w K mg base 1 "_law_draw" spDraw []) (c_Lmade_rows : C8.Cal P w K mg base 3 "_law_made_rows" (spRowsL K) []) (c_Llikewise : C8.Cal P w K mg base 3 "_law_likewise" (spLike K) []) (c_Lchanged : C8.Cal P w K mg base 3 "_law_changed" (spChanged K) [])
    (c_Lright : CalG P w K mg base 5 "_law_right" (spRight1 K C)) (m_System3 : C8.Mak P w K mg base 5 "System" C (spInit K C TT) []) (m_System : C8.Mak P w K mg base 5 "System" C (spInit K C TT) [.int 1000003]) (m_SystemK : MakK P w K mg base 5 "System" C (spInit K C TT) ["modulus", "tables", "dimensions"] (fun vs zs => kwS vs [.int 1000003] zs))
    (eq_System : EqM P w K mg base 1 C (spSysEq K C)) (eqo_System : EqM P w K mg base 1 C (spSysNo K C)) (p_names : Prp P w K mg base 1 C "names" (spNames K C)) (t_reads : C8.Met P w K mg base 4 C "reads" (spReads K C) []) (t_all_reads : C8.Met P w K mg base 1 C "all_reads" (spAll K C) []) :
    FnG P w K mg base 7 f fd ["_law_script"] (spLaw1 K TT) := by
  refine Fun_okG F sc_law (fun vs H Q E h => ?_) (fun cdv A outer sh H vs Q E hr h => ?_)
  · obtain ⟨a, ns, rfl, _⟩ := h
    rfl
  · obtain ⟨a, ns, rfl, ha, hl, hT, q⟩ := h
    refine ⟨_, (pss_cons (ps_set (i := 1) sc_law.nd rfl (by first | exact Or.inl rfl | exact Or.inr rfl) (C8.pe_c c_Lrng hr.room (by decide) (by rfl) (pa_cons (pv 0) pa_nil)))
  (pss_cons (ps_for PassesOwn.never rfl (pi_range1 (by rfl) T.b_range (pa_cons (pe_op op_add pe_int (pe_callB (call_min2 rfl) (by rfl) T.b_min (by decide +kernel) (pa_cons pe_int (pa_cons (pe_callB call_len_seq (by rfl) T.b_len PySem.boot_len (pa_cons (pv 0) pa_nil)) pa_nil)))) pa_nil)) (pg_name (i := 2) sc_law.nd rfl (by first | exact Or.inl rfl | exact Or.inr rfl))
    (pss_cons (ps_par3 (i := 3) (j := 4) (k := 5) (by rfl) sc_law.nd rfl rfl rfl (by decide) (by decide) (by decide) rfl rfl rfl (pa_cons (pe_op op_add pe_int (C8.pe_c c_Ldraw hr.room (by decide) (by rfl) (pa_cons (pv 1) (pa_cons pe_int pa_nil)))) (pa_cons (pe_op op_add pe_int (C8.pe_c c_Ldraw hr.room (by decide) (by rfl) (pa_cons (pv 1) (pa_cons pe_int pa_nil)))) (pa_cons (pe_op op_add pe_int (C8.pe_c c_Ldraw hr.room (by decide) (by rfl) (pa_cons (pv 1) (pa_cons (pe_op op_sub (pe_op op_mulW pe_int (pe_op op_pow pe_int pe_int)) pe_int) pa_nil)))) pa_nil))) (by rfl))
    (pss_cons (ps_set (i := 6) sc_law.nd rfl (by first | exact Or.inl rfl | exact Or.inr rfl) (C8.pe_c c_Lmade_rows hr.room (by decide) (by rfl) (pa_cons (pv 1) (pa_cons (pv 3) (pa_cons (pv 4) (pa_cons pe_int (pa_cons pe_int pa_nil)))))))
    (pss_cons (ps_set (i := 6) sc_law.nd rfl (by first | exact Or.inl rfl | exact Or.inr rfl) (pe_csqE (pe_ifExp (pt_cmpR op_gt (pv 2) pe_int (nomark _)) (C8.pe_c c_Llikewise hr.room (by decide) (by rfl) (pa_cons (pv 1) (pa_cons (pv 6) pa_nil))) (pv 6))))
    (pss_cons (ps_par (i := 7) (j := 8) (by rfl) sc_law.nd rfl rfl (by decide) rfl rfl (pa_cons (pe_callB (call_reprD hr.free hr.room.units1) (by rfl) zr (by decide +kernel) (pa_cons (pv 6) pa_nil)) (pa_cons (C8.pe_mk m_System3 hr.room (by decide) (by rfl) (pa_cons (pv 3) (pa_cons (pv 6) (pa_cons (pv 5) pa_nil)))) pa_nil)) (by rfl))
    (pss_cons (ps_par (i := 9) (j := 10) (by rfl) sc_law.nd rfl rfl (by decide) rfl rfl (pa_cons (pe_mkk m_SystemK hr.room (by decide) (by rfl) (pk_cons (pv 5) (pk_cons (pv 6) (pk_cons (pv 3) pk_nil)))) (pa_cons (C8.pe_mk m_System hr.room (by decide) (by rfl) (pa_cons (pv 3) (pa_cons (pv 6) pa_nil))) pa_nil)) (by rfl))
    (pss_cons (ps_if (PW.pt (pw_or (pt_not (pt_val (pe_cG c_Lright hr (by decide) (by rfl) (pa_cons (pv 8) (pa_cons (pv 3) (pa_cons (pv 6) (pa_cons (pv 5) pa_nil))))))) (pw_or1 (pt_not (pt_val (pe_cG c_Lright hr (by decide) (by rfl) (pa_cons (pv 10) (pa_cons (pv 3) (pa_cons (pv 6) (pa_cons pe_int pa_nil))))))))))
      (pss_one (ps_ret pe_bl))
      pss_nil)
    (pss_cons (ps_asg (C8.pe_c c_Lchanged hr.room (by decide) (by rfl) (pa_cons (pv 1) (pa_cons (pv 3) (pa_cons (pv 6) pa_nil)))) (pg_tup rfl (pgs_cons (pg_name (i := 11) sc_law.nd rfl (by first | exact Or.inl rfl | exact Or.inr rfl)) (pgs_cons (pg_name (i := 12) sc_law.nd rfl (by first | exact Or.inl rfl | exact Or.inr rfl)) pgs_nil))))
    (pss_cons (ps_if (PW.pt (pw_or (pt_cmpR op_ne (pe_cmpR (op_eqOwn eq_System hr.room (by decide)) (C8.pe_mk m_System3 hr.room (by decide) (by rfl) (pa_cons (pv 3) (pa_cons (pv 11) (pa_cons (pv 5) pa_nil)))) (pv 8) (nomark _)) (pv 12) (nomark _)) (pw_or (pt_not (pt_cmpR (op_eqOwn eq_System hr.room (by decide)) (pv 9) (pv 8) (nomark _))) (pw_or1 (pt_cmpR op_ne (pe_cmpR (op_eqOwn eq_System hr.room (by decide)) (pv 10) (pv 8) (nomark _)) (pe_cmpR op_eq (pv 5) pe_int (nomark _)) (nomark _))))))
      (pss_one (ps_ret pe_bl))
      pss_nil)
    (pss_cons (ps_if (PW.pt (pw_or (pt_cmpR (op_eqOwn eq_System hr.room (by decide)) (C8.pe_mk m_System3 hr.room (by decide) (by rfl) (pa_cons (pv 3) (pa_cons (pv 6) (pa_cons (pe_op op_sub (pe_op op_add (pv 5) pe_int) (pe_op op_mulW pe_int (pe_callTy call_int1 (by rfl) T.b_int (by decide +kernel) (pa_cons (pe_cmpR op_gt (pv 5) pe_int (nomark _)) pa_nil)))) pa_nil)))) (pv 8) (nomark _)) (pw_or1 (pt_cmpR op_ne (pe_callB (call_reprD hr.free hr.room.units1) (by rfl) zr (by decide +kernel) (pa_cons (pv 6) pa_nil)) (pv 7) (nomark _)))))
      (pss_one (ps_ret pe_bl))
      pss_nil)
    (pss_cons (ps_if (PW.pt (pw_or (pt_cmpR (op_eqOut eqo_System hr.room (by decide)) (pv 8) (pv 6) (nomark _)) (pw_or (pt_cmpR (op_eqOut eqo_System hr.room (by decide)) (pv 8) (pe_callB (call_reprD hr.free hr.room.units1) (by rfl) zr (by decide +kernel) (pa_cons (pe_pr (pv 8) p_names hr.room (by decide) rfl) pa_nil)) (nomark _)) (pw_or1 (pt_cmpR (op_eqOut eqo_System hr.room (by decide)) (pv 8) pe_int (nomark _))))))
      (pss_one (ps_ret pe_bl))
      pss_nil)
    (pss_cons (ps_expr (pe_bm PySem.F.plainAttrs_list PySem.F.slot_list_append PySem.F.type_list_append mt_append (pe_pr (pv 8) p_names hr.room (by decide) rfl) (pa_cons pe_str pa_nil)))
    (pss_cons (ps_expr (pe_bm PySem.F.plainAttrs_list PySem.F.slot_list_append PySem.F.type_list_append mt_append (C8.pe_mt0 t_all_reads hr.room (by decide) (pv 8)) (pa_cons (pe_tup (pa_cons pe_str (pa_cons pe_int pa_nil))) pa_nil)))
    (pss_cons (ps_expr (pe_bm PySem.F.plainAttrs_list PySem.F.slot_list_append PySem.F.type_list_append mt_append (C8.pe_mt t_reads hr.room (by decide) (pv 8) (pa_cons (pe_ix ix_tup (pe_ix ix_list (pv 6) pe_int (fun _ _ => rfl)) pe_int (fun _ _ => rfl)) pa_nil)) (pa_cons pe_non pa_nil)))
    (pss_cons (ps_for PassesOwn.never rfl (pi_list (pv 6)) (pg_name (i := 13) sc_law.nd rfl (by first | exact Or.inl rfl | exact Or.inr rfl))
      (pss_one (ps_expr (pe_bm PySem.F.plainAttrs_list PySem.F.slot_list_append PySem.F.type_list_append mt_append (pe_ix ix_tup (pv 13) pe_int (fun _ _ => rfl)) (pa_cons (pe_tup (pa_cons (pe_ix ix_tup (pe_ix ix_list (pv 6) pe_int (fun _ _ => rfl)) pe_int (fun _ _ => rfl)) (pa_cons (pe_csqE (pe_op op_repU (pe_tup (pa_cons pe_int pa_nil)) (pv 3))) (pa_cons pe_int pa_nil)))) pa_nil)))))
    (pss_one (ps_if (PW.pt (pw_or (pt_not (pt_cmpR (op_eqOwn eq_System hr.room (by decide)) (pv 8) (pv 9) (nomark _))) (pw_or1 (pt_cmpR op_ne (pe_callB call_len_seq (by rfl) T.b_len PySem.boot_len (pa_cons (C8.pe_mt0 t_all_reads hr.room (by decide) (pv 8)) pa_nil)) (pe_callB (cr_sum rfl) (by rfl) zs (by decide +kernel) (pa_cons (pe_lc (own := [("_law_row", 13)]) (g := gName 13) (tt := tYes) (by rfl) sc_law.nd (pi_list (pv 6)) (blkOk_by (N := ["_law_script", "_law_rng_here", "_law_lap", "_law_dims", "_law_many", "_law_base", "_law_rows", "_law_kept", "_law_made", "_law_named", "_law_plain", "_law_others", "_law_same", "_law_row", "_law_turn", "_law_bare"]) (sc := defScope s_law) (by decide +kernel)) (fun _ _ _ _ _ => (pg_name (i := 13) sc_law.nd rfl (by first | exact Or.inl rfl | exact Or.inr rfl))) (fun _ _ _ _ _ => pts_nil) (fun _ _ _ _ _ => (pe_op op_sub (pe_callB (r := Evl.rLenS K) call_len_seq (by rfl) T.b_len PySem.boot_len (pa_cons (pe_ix (r := rIxT K) ix_tup (pv 13) pe_int (fun _ _ => rfl)) pa_nil)) pe_int))) pa_nil)) (nomark _)))))
      (pss_one (ps_ret pe_bl))
      pss_nil)))))))))))))))))
  (pss_cons (ps_setLc (i := 4) (own := [("_law_turn", 14)]) (g := gName 14) (tt := tYes) (by rfl) sc_law.nd rfl rfl (sw_true rfl rfl rfl (by decide +kernel)) (pi_range1 (by rfl) T.b_range (pa_cons pe_int pa_nil)) (blkOk_by (N := ["_law_script", "_law_rng_here", "_law_lap", "_law_dims", "_law_many", "_law_base", "_law_rows", "_law_kept", "_law_made", "_law_named", "_law_plain", "_law_others", "_law_same", "_law_row", "_law_turn", "_law_bare"]) (sc := defScope s_law) (by decide +kernel)) (fun _ _ _ _ _ => (pg_name (i := 14) sc_law.nd rfl (by first | exact Or.inl rfl | exact Or.inr rfl))) (fun _ _ _ _ _ => pts_nil) (fun _ _ _ _ _ => (pe_tup (pa_cons pe_str (pa_cons (pe_tup (pa_cons pe_int pa_nil)) (pa_cons (pe_op op_add pe_int (pe_op op_mod (pe_callTy call_int1 (by rfl) T.b_int (by decide +kernel) (pa_cons (pv 14) pa_nil)) pe_int)) pa_nil))))))
  (pss_cons (ps_set (i := 15) sc_law.nd rfl (by first | exact Or.inl rfl | exact Or.inr rfl) (pe_lst (pa_cons (pe_tup (pa_cons pe_str (pa_cons pe_int (pa_cons (pe_lst pa_nil) pa_nil)))) (pa_cons (pe_tup (pa_cons pe_str (pa_cons pe_int (pa_cons (pe_lst pa_nil) pa_nil)))) pa_nil))))
  (pss_cons (ps_if (pt_cmpR (op_neD hr.room.units) (C8.pe_mt0 t_all_reads hr.room (by decide) (C8.pe_mk m_System hr.room (by decide) (by rfl) (pa_cons pe_int (pa_cons (pe_lst (pa_cons (pe_tup (pa_cons pe_str (pa_cons pe_int (pa_cons (pv 4) pa_nil)))) pa_nil)) pa_nil)))) (pe_lc (own := [("_law_turn", 14)]) (g := gName 14) (tt := tYes) (by rfl) sc_law.nd (pi_range1 (by rfl) T.b_range (pa_cons pe_int pa_nil)) (blkOk_by (N := ["_law_script", "_law_rng_here", "_law_lap", "_law_dims", "_law_many", "_law_base", "_law_rows", "_law_kept", "_law_made", "_law_named", "_law_plain", "_law_others", "_law_same", "_law_row", "_law_turn", "_law_bare"]) (sc := defScope s_law) (by decide +kernel)) (fun _ _ _ _ _ => (pg_name (i := 14) sc_law.nd rfl (by first | exact Or.inl rfl | exact Or.inr rfl))) (fun _ _ _ _ _ => pts_nil) (fun _ _ _ _ _ => (pe_tup (pa_cons pe_str (pa_cons (pv 14) pa_nil))))) (nomark _))
    (pss_one (ps_ret pe_bl))
    pss_nil)
  (pss_one (ps_ret (pe_and (pe_cmpR (op_eqD hr.room.units) (pe_pr (C8.pe_mk m_System hr.room (by decide) (by rfl) (pa_cons pe_int (pa_cons (pv 15) pa_nil))) p_names hr.room (by decide) rfl) (pe_lst (pa_cons pe_str (pa_cons pe_str pa_nil))) (nomark _)) (pe_one (pe_not (pe_cmpR (op_eqOwn eq_System hr.room (by decide)) (C8.pe_mk m_System hr.room (by decide) (by rfl) (pa_cons pe_int (pa_cons (pv 15) pa_nil))) (C8.pe_mk m_System hr.room (by decide) (by rfl) (pa_cons pe_int (pa_cons (pv 15) pa_nil))) (nomark _)))))))))))), ?_⟩
    refine ⟨_, rfl, a, ns, rfl, ha, hl, fun r H1 hr1 s1 rok => ?_⟩
    have hT1 := hT.ext s1
    refine ⟨_, rfl, a, _, rfl, Or.inl (sql s1 ha), ?_⟩
    have hlap : (6 + (if ((ns.map V.int).length : Int) < 10 then ((ns.map V.int).length : Int) else 10)) ≤ 16 ∧ 0 ≤ (6 + (if ((ns.map V.int).length : Int) < 10 then ((ns.map V.int).length : Int) else 10)) := by
      split <;> omega
    refine ⟨10, _, rfl, _, _, rfl, rfl, _, rfl, by omega, by omega, ?_⟩
    generalize (6 + (if ((ns.map V.int).length : Int) < 10 then ((ns.map V.int).length : Int) else 10)) = laps at hlap
    clear hT ha hr1 s1
    refine for_range (fun i σ H' => ∃ (y2 y3 y4 y5 y6 y7 y8 y9 y10 y11 y12 y13 : Option V), σ = [some (.ref a), some (.ref r), y2, y3, y4, y5, y6, y7, y8, y9, y10, y11, y12, y13, none, none] ∧ RngOk H' r (3000 * i) ∧ LamX.Tabs TT H')
      ⟨none, none, none, none, none, none, none, none, none, none, none, none, rfl, rok, hT1⟩ ?_ ?_
    · rintro i σ H2 hi ⟨y2, y3, y4, y5, y6, y7, y8, y9, y10, y11, y12, y13, rfl, rok2, hT2⟩
      have hi16 : i < 16 := by omega
      have hsz : (100 : Nat) ≤ sizeLine := by rw [sizeLine_eq]; decide
      -- dims, many, base
      refine ⟨_, rfl, r, 3, _, rfl, rok2, by omega, by decide, by decide, fun k1 H3 k10 k11 D3 => ⟨_, _, rfl, rfl, ?_⟩⟩
      have hT3 := tabs_dr hT2 rok2 D3
      refine ⟨_, rfl, r, 6, _, rfl, D3.ok, by omega, by decide, by decide, fun k3 H4 k30 k31 D4 => ⟨_, _, rfl, rfl, ?_⟩⟩
      have hT4 := tabs_dr hT3 D3.ok D4
      refine ⟨_, rfl, 10, 6, rfl, rfl, ⟨by decide, by decide, by decide⟩, 2, _, rfl, rfl, wide_mul (a := 100) (b := 100) (by decide) (by decide +kernel) (by decide) (by decide) (by decide), _, _, rfl, rfl, ?_⟩
      refine ⟨r, 2 * 10 ^ (6 : Int).toNat - 1, _, rfl, D4.ok, by omega, by decide, by decide, fun k2 H5 k20 k21 D5 => ⟨_, _, rfl, rfl, _, _, _, rfl, ?_⟩⟩
      have hT5 := tabs_dr hT4 D4.ok D5
      have k21' : k2 < 2000000 := by
        have e : 2 * (10 : Int) ^ (6 : Int).toNat - 1 = 1999999 := by decide
        rw [e] at k21
        omega
      -- rows
      refine ⟨_, rfl, _, rfl, _, rfl, r, 1 + k1, 1 + k3, 12, 5, _, cutr H5 r, rfl, RS.cut D5.ok, by omega, by omega, by omega, by omega, by decide, by decide, by decide, by decide, by omega, fun rp0 B6 H6 ts0 s6 R6 RL6 hlen O6 ok6 sm6 _ few6 => ?_⟩
      have hT6 := tabs_cut hT5 D5.ok (same_tr s6 R6.s)
      have O0 : Sys1 (1 + k1) (2 + k2) ts0 := ⟨by omega, by omega, by omega, by omega, by omega, by omega, O6, sm6⟩
      obtain ⟨d, hd⟩ : ∃ d : Int, d = 1 + k1 := ⟨_, rfl⟩
      obtain ⟨md, hmd⟩ : ∃ md : Int, md = 2 + k2 := ⟨_, rfl⟩
      rw [← hd, ← hmd] at O0
      dsimp only
      rw [← hd, ← hmd]
      have R6' := R6.mono (show 3000 * i + 1 + 1 + 1 + 1000 ≤ 3000 * i + 1003 by omega)
      clear D3 D4 D5 hT2 hT3 hT4 hT5 s6 R6 O6 ok6 sm6 few6 hlen k10 k11 k20 k21 k30 k31 rok2 k21'
      -- other names
      refine ⟨fun v H' => ∃ (rp : Addr) (B' : Hp) (ts : List Tb), v = .ref rp ∧ RS r (3000 * i + 1023) B' H' ∧ LamX.Tabs TT H' ∧ RowsL K B' rp ts ∧ Sys1 d md ts, ?_, ?_⟩
      · rintro v H7 ⟨rp, B7, ts, rfl, R7, T7, RL7, O⟩
        clear R6' hT6 RL6 O0
        have L7' := RL7.ld.grow R7.s
        -- kept, made
        obtain ⟨w1, w2, w3, w4⟩ := (rows_shw O).asks (by decide) (by decide)
        refine ⟨_, rfl, .ref rp, .list (ts.map Tb.d), rfl, L7'.dp, w1, w2, w3, w4, ?_⟩
        refine ⟨_, rfl, _, rfl, _, rfl, fun x dx nx ndx nex => mk_sys T7 O.sys L7'.dp nx ndx nex fun H8 X8 T8 S8 => ⟨_, _, rfl, ?_⟩⟩
        have L8 := L7'.ext X8
        -- named, plain
        refine ⟨_, rfl, _, rfl, _, rfl, rfl, rfl, fun y dy ny ndy ney => mk_sys T8 O.sys L8.dp ny ndy ney fun H9 X9 T9 S9 => ?_⟩
        have L9 := L8.ext X9
        have OP : Sys1 d 1000003 ts := ⟨O.d1, O.d3, by decide, by decide, O.l1, O.l6, O.ok, O.sm⟩
        refine ⟨_, rfl, _, rfl, fun z dz nz ndz nez => mk_sys T9 OP.sys L9.dp nz ndz nez fun H10 X10 T10 S10 => ⟨_, _, rfl, ?_⟩⟩
        have XX := (X8.trans X9).trans X10
        obtain ⟨c1, c2, c3, ce, cn⟩ := id R7.ok
        have rok10 : RngOk H10 r (3000 * i + 1023) := ⟨c1, c2, c3, XX _ _ ce (fun ps z => by cases z), cn⟩
        have LL := LS.own rok10 T10
        have lap : Lap K C (bs H10 r) rp x y z d md ts := ⟨RL7.to R7.s R7.n XX, ((S8.ext X9).ext X10).re rok10, (S9.ext X10).re rok10, S10.re rok10⟩
        generalize bs H10 r = B at LL lap
        clear XX X8 X9 X10 T7 T8 T9 T10 S8 S9 S10 L7' L8 L9 R7 RL7 rok10 nx ndx nex ny ndy ney nz ndz nez c1 c2 c3 ce cn
        have Os := O.srt
        -- right
        have lap' := lap.mono LL.rs.s
        refine ⟨_, rfl, _, rfl, _, rfl, _, rfl, x, rp, d, md, ts, rfl, lap'.sx, lap'.rows.ld, O, fun H11 s11 => ⟨_, rfl, iteF ?_⟩⟩
        have lap1 := lap'.mono s11
        refine ⟨_, rfl, _, rfl, _, rfl, z, rp, d, 1000003, ts, rfl, lap1.sz, lap1.rows.ld, OP, fun H12 s12 => ⟨_, rfl, iteF ?_⟩⟩
        have L12 := (LL.grow s11).grow s12
        clear lap' lap1 s11 s12 LL
        -- changed
        refine ⟨_, rfl, _, rfl, _, rfl, r, rp, _, cutr H12 r, d, md, ts, rfl, RS.cut L12.rs.ok, (lap.rows.mono (same_cut L12.rs)).ld, O, by omega, fun p g same us B13 H13 s13 R13 p13 Lg OU lU tU => ?_⟩
        refine ⟨p, _, rfl, Or.inl (Or.inl (R13.s _ _ p13)), rfl, _, _, rfl, _, _, rfl, rfl, ?_⟩
        have L13 := L12.call R13 s13
        have Lg13 := Lg.grow R13.s
        clear R13 s13 p13 Lg L12
        have t1 := O.l1
        have t6 := O.l6
        have SU : OkSys d md us := ⟨O.d1, O.d3, O.m2, by omega, by omega, OU⟩
        have OUs := OU.perm (srt_perm us).symm
        have shs : ∀ t ∈ srt ts, SeqAt.shaped t.k = true := fun t ht => (lay_k Os.ok ht).shaped (by decide)
        -- == of changed tables
        refine ⟨_, rfl, _, rfl, _, rfl, fun x4 dx4 n1 n2 n3 => mk_sys L13.tb SU Lg13.dp n1 n2 n3 fun H14 X14 T14 S14 => ?_⟩
        have L14 := L13.ext X14 T14
        clear n1 n2 n3 X14 T14 L13 Lg13
        have lap14 := lap.mono L14.rs.s
        refine ⟨_, rfl, eq_sysG S14 lap14.sx OUs Os.ok ⟨_, rfl, rfl, ?_⟩⟩
        refine ⟨_, rfl, ?_⟩
        rw [decide_eq_true rfl, decide_eq_true rfl, Bool.true_and, Bool.true_and, tU, decide_eq_true rfl]
        refine iteF ?_
        refine ⟨_, rfl, _, rfl, eq_sys lap14.sy lap14.sx Os.ok ⟨_, rfl, iteF ?_⟩⟩
        refine ⟨_, rfl, _, rfl, ?_⟩
        refine eq_sysG lap14.sz lap14.sx Os.ok Os.ok ?_
        refine ⟨_, rfl, rfl, rfl, ?_⟩
        refine ⟨_, rfl, ?_⟩
        rw [decide_eq_true rfl, Bool.true_and, tabEq_refl Os.ok.nodup shs, Bool.and_true, dec_int, show decide (md = 1000003) = decide (1000003 = md) from decide_eq_decide.mpr eq_comm, decide_eq_true rfl]
        refine iteF ?_
        -- another modulus; the rows stay
        have m2 := O.m2
        have SM : OkSys d (md + 1 - 2 * if decide (2 < md) = true then 1 else 0) ts := ⟨O.d1, O.d3, by
          split
          · rename_i h
            have := of_decide_eq_true h
            omega
          · omega, O.l1, O.l6, O.ok⟩
        refine ⟨_, rfl, _, rfl, _, rfl, _, _, rfl, rfl, _, rfl, _, _, rfl, rfl, Or.inr ⟨_, rfl, _, _, rfl, rfl, wide_mul (a := 100) (b := 100) (by decide) (by split <;> decide) (by decide) (by decide) (by decide), _, _, rfl, rfl, fun x5 dx5 n1 n2 n3 => mk_sys L14.tb SM lap14.rows.ld.dp n1 n2 n3 fun H15 X15 T15 S15 => ?_⟩⟩
        have L15 := L14.ext X15 T15
        clear n1 n2 n3 X15 T15 L14 lap14 S14
        have lap15 := lap.mono L15.rs.s
        refine ⟨_, rfl, eq_sysG S15 lap15.sx Os.ok Os.ok ⟨_, rfl, ?_⟩⟩
        rw [decide_eq_true rfl, decide_eq_false (show ¬ (md + 1 - 2 * (if decide (2 < md) = true then 1 else 0) = md) by split <;> omega)]
        refine iteF ?_
        refine ⟨_, rfl, .ref rp, .list (ts.map Tb.d), rfl, lap15.rows.ld.dp, w1, w2, w3, w4, _, rfl, rfl, ?_⟩
        refine ⟨_, rfl, ?_⟩
        rw [decide_eq_true rfl]
        refine iteF ?_
        clear S15 SM SU OUs tU lU OU
        -- equal to nothing else
        obtain ⟨zs, tls, e1, hrp, hpr, hnd, hap⟩ := id lap.rows
        have hrp15 := L15.rs.s _ _ hrp
        refine ⟨_, rfl, _, rfl, eq_no lap15.sx (.lst hrp15) nfl kl ⟨_, rfl, iteF ?_⟩⟩
        obtain ⟨sdx, stt, skv, o1, o2, o3⟩ := id lap.sx.ob
        have nf : ∀ {y : Str}, ¬ y = "_dimensions" → ¬ y = "_modulus" → ¬ y = "_tables" → (flds d md stt).lookup y = none := fun a b c => flds_no _ _ _ a b c
        have en : ((srt ts).map fun t => V.str t.n) = ((srt ts).map fun t : Tb => t.n).map V.str := by rw [List.map_map]; rfl
        have srl : (srt ts).length = ts.length := (srt_perm ts).length_eq
        refine ⟨_, rfl, _, rfl, x, sdx, _, rfl, L15.rs.s _ _ o1, x, d, md, srt ts, rfl, lap15.sx, fun pn H16 hpn s16 hn16 => ?_⟩
        have shn : Shw (.list (((srt ts).map fun t : Tb => t.n).map .str)) 5 1000 := Shw.list ((ShwA.map (w := 8) fun y hy => by
          obtain ⟨t, ht, rfl⟩ := List.mem_map.mp hy
          exact Shw.str (k := 4) (name_ok (Os.ok.names t ht)).1 (name_ok (Os.ok.names t ht)).2).mono (Nat.le_refl _) (by rw [List.length_map]; omega))
        obtain ⟨v1, v2, v3, v4⟩ := shn.asks (by decide) (by decide)
        refine ⟨.ref pn, .list (((srt ts).map fun t : Tb => t.n).map .str), rfl, .lst (Or.inl (Or.inl (by rw [← en]; exact hn16))) (strs_dps _), v1, v2, v3, v4, ?_⟩
        refine eq_no (lap15.sx.mono s16) (.str _) nfs ks ⟨_, rfl, iteF ?_⟩
        refine ⟨_, rfl, ?_⟩
        dsimp only [tC]
        refine eq_no (lap15.sx.mono s16) (.int 0) nfi ki ?_
        refine ⟨_, rfl, iteF ?_⟩
        have L16 := L15.grow s16
        clear v1 v2 v3 v4 shn hn16 hpn s16 L15 lap15 hrp15 w1 w2 w3 w4
        -- new lists
        refine ⟨_, rfl, x, sdx, _, rfl, L16.rs.s _ _ o1, x, d, md, srt ts, rfl, lap.sx.mono L16.rs.s, fun pn H17 hpn s17 hn17 => ?_⟩
        refine ⟨Or.inl ⟨rfl, _, Or.inl (Or.inl hn17)⟩, pn, _, _, rfl, rfl, hn17, Nat.le_of_lt (small1000 (by rw [List.length_map]; omega)), ?_⟩
        have L17 := (L16.grow s17).put (o := .lst (((srt ts).map fun t => V.str t.n) ++ [.str "x"])) (free_of L16.rs.s hpn) (L16.rs.ne hpn) hn17
        generalize upd H17 pn (.lst (((srt ts).map fun t => V.str t.n) ++ [.str "x"])) = H18 at L17
        clear hpn s17 hn17 L16
        refine ⟨_, rfl, x, sdx, _, rfl, L17.rs.s _ _ o1, nf (by decide +kernel) (by decide +kernel) (by decide +kernel), x, d, md, srt ts, rfl, lap.sx.mono L17.rs.s, Os.ok.nodup, Nat.le_trans Os.ok.few (by decide), fun pa H19 hpa s19 LA => ?_⟩
        obtain ⟨as, ha1, ha2⟩ := LA
        have al : as.length ≤ 12 := by
          rw [dps_len ha2, List.length_map, named_len]
          exact Os.ok.few
        refine ⟨Or.inl ⟨rfl, _, Or.inl (Or.inl ha1)⟩, (by show 2 ≤ sizeLine; decide), fun u hu => ?_⟩
        refine ⟨pa, as, _, rfl, rfl, snew hu _ _ ha1, Nat.le_of_lt (small1000 (by omega)), ?_⟩
        have L19 := ((L17.grow s19).new (o := .tup [.str "x", .int 0]) hu).put (o := .lst (as ++ [.ref u])) (free_of L17.rs.s hpa) (L17.rs.ne hpa) (snew hu _ _ ha1)
        generalize upd (upd H19 u (.tup [.str "x", .int 0])) pa (.lst (as ++ [.ref u])) = H20 at L19
        clear hpa s19 ha1 ha2 al hu L17
        -- the first row
        obtain ⟨t0, tr, et⟩ : ∃ t0 tr, ts = t0 :: tr := by
          cases hts : ts with
          | nil => rw [hts] at t1; cases t1
          | cons b c => exact ⟨b, c, rfl⟩
        obtain ⟨l0, tlr, etl⟩ : ∃ l0 tlr, tls = (t0, l0) :: tlr := by
          cases htl : tls with
          | nil => rw [htl, et] at e1; cases e1
          | cons b c =>
            rw [htl, et] at e1
            injection e1 with e1 _
            exact ⟨b.2, c, by rw [← e1]⟩
        obtain ⟨z0, zr, u0, ez, hu0, hz0⟩ : ∃ z0 zr u0, zs = z0 :: zr ∧ z0 = .ref u0 ∧ SqT K B u0 [.str t0.n, .int t0.c, .ref l0] := by
          rw [etl] at hpr
          cases hpr with
          | cons h1 h2 =>
            obtain ⟨u, es, g1, g2, _⟩ := h1
            exact ⟨_, _, u, rfl, g1, g2⟩
        have m0 : t0 ∈ srt ts := (srt_perm ts).mem_iff.mpr (by rw [et]; exact List.mem_cons_self)
        have at0 : atI zs 0 = some (.ref u0) := by rw [ez, hu0]; exact atI_nat (j := 0) rfl
        refine ⟨_, rfl, x, sdx, _, rfl, L19.rs.s _ _ o1, nf (by decide +kernel) (by decide +kernel) (by decide +kernel), _, rfl, rp, zs, 0, _, rfl, rfl, Or.inl (Or.inl (L19.rs.s _ _ hrp)), at0, u0, _, 0, _, rfl, rfl, sqt L19.rs.s hz0, rfl, H20, x, d, md, srt ts, t0.n, t0, rfl, same_refl, lap.sx.mono L19.rs.s, List.mem_map.mpr ⟨t0, m0, rfl⟩, find_nodup' Os.ok.nodup m0, fun pr H21 rs hpr1 s21 hl21 hd21 => ?_⟩
        have rl : rs.length ≤ 12 := by
          rw [dps_len hd21, List.length_map]
          exact few_reads Os.ok m0
        refine ⟨Or.inl ⟨rfl, _, Or.inl (Or.inl hl21)⟩, pr, rs, _, rfl, rfl, hl21, Nat.le_of_lt (small1000 (by omega)), ?_⟩
        have L21 := (L19.grow s21).put (o := .lst (rs ++ [.non])) (free_of L19.rs.s hpr1) (L19.rs.ne hpr1) hl21
        generalize upd H21 pr (.lst (rs ++ [.non])) = H22 at L21
        clear hpr1 s21 hl21 hd21 rl L19
        -- the lists that were passed are changed
        have rB := L21.rs.n
        have row_of : ∀ {j : Nat} {v : Tb × Addr}, tls[j]? = some v → ∃ es, B v.2 = some (.lst es) ∧ es.length = v.1.rs.length := fun {j v} hv => by
          obtain ⟨zz, _, u, es, _, _, g3, g4⟩ := paired_at' hpr hv
          exact ⟨es, g3, by rw [dps_len g4, List.length_map]⟩
        have sH : Same B H22 := L21.rs.s
        refine ⟨_, rfl, rp, rfl, ⟨_, Or.inl (Or.inl (sH _ _ hrp))⟩, ?_⟩
        refine for_it (walk_list (K := K) (a := rp) (xs := zs)) (fun i2 σ H' => ∃ yy, σ = [some (.ref a), some (.ref r), some (.int (0 + (i : Int))), some (.int d), some (.int (1 + k3)), some (.int md), some (.ref rp), some (.str (PyData.list (ts.map Tb.d)).shown), some (.ref x), some (.ref y), some (.ref z), some (.ref g), some (.bl same), yy, none, none] ∧ NL H22 H' ∧ RngOk H' r (3000 * i + 1023 + 20) ∧ LamX.Tabs TT H' ∧ H' rp = some (.lst zs) ∧ ∀ (j : Nat) (v : Tb × Addr), tls[j]? = some v → ∃ es, H' v.2 = some (.lst es) ∧ es.length = v.1.rs.length + (if j < i2 then 1 else 0))
          ⟨_, rfl, NL.of same_refl, L21.rs.ok, L21.tb, sH _ _ hrp, fun j v hv => by
            obtain ⟨es, g1, g2⟩ := row_of hv
            exact ⟨es, sH _ _ g1, by rw [g2, if_neg (Nat.not_lt_zero j)]; rfl⟩⟩ (fun i2 σ H' _ ⟨_, _, _, _, _, b, _⟩ => Or.inl (Or.inl b)) ?_ ?_
        · rintro i2 v σ _ H23 hi2 ⟨yy, rfl, nl, rk, tb, hrp', hls⟩ ⟨rfl, hy⟩
          obtain ⟨yt, hyt, u, _, rfl, hu1, hu2, _⟩ := paired_at hpr hy
          obtain ⟨es, hl23, el⟩ := hls i2 yt hyt
          rw [if_neg (Nat.lt_irrefl i2), Nat.add_zero] at el
          have htm : yt.1 ∈ ts := by rw [← e1]; exact List.mem_map.mpr ⟨yt, List.mem_of_getElem? hyt, rfl⟩
          have few1 := few_reads O.ok htm
          have rne : r ≠ yt.2 := fun z => by
            rw [← z, rB] at hu2
            cases hu2
          have pne : rp ≠ yt.2 := fun z => hap (by rw [z]; exact List.mem_map.mpr ⟨yt, List.mem_of_getElem? hyt, rfl⟩)
          have tup : ∀ {b : Addr} {xs : List V}, SqT K B b xs → SqT K H23 b xs := fun h => sqtt nl.st (sqt sH h)
          refine ⟨_, rfl, u, _, 2, _, rfl, rfl, tup hu1, rfl, Or.inl ⟨rfl, _, Or.inl (Or.inl hl23)⟩, _, rfl, rp, zs, 0, _, rfl, rfl, Or.inl (Or.inl hrp'), at0, u0, _, 0, _, rfl, rfl, tup hz0, rfl, ?_⟩
          refine ⟨fun v H' => ∃ t, v = .ref t ∧ Same H23 H', ?_, ?_⟩
          · rintro v H24 ⟨t, rfl, s24⟩
            refine ⟨(by show 3 ≤ sizeLine; decide), fun t3 ht3 => ?_⟩
            have s25 := same_tr s24 (snew (o := .tup [.str t0.n, .ref t, .int 1]) ht3)
            have hl25 := s25 _ _ hl23
            refine ⟨yt.2, es, _, rfl, rfl, hl25, Nat.le_of_lt (small1000 (by omega)), ?_⟩
            refine ⟨_, rfl, nl.tr ((NL.of s25).tr (NL.put hl25)), (rng_same rk s25).at (upd_ne rne), tabs_lst (tb.ext s25) hl25, by rw [upd_ne pne]; exact s25 _ _ hrp', fun j v hv => ?_⟩
            by_cases hj : j = i2
            · subst hj
              rw [hyt] at hv
              cases hv
              exact ⟨_, upd_same, by rw [List.length_append, el, if_pos (Nat.lt_succ_self j)]; rfl⟩
            · obtain ⟨es', g1, g2⟩ := hls j v hv
              have ne : v.2 ≠ yt.2 := fun z => by
                have hjl := (List.getElem?_eq_some_iff.mp hv).1
                have q1 : (tls.map (·.2))[j]? = (tls.map (·.2))[i2]? := by rw [List.getElem?_map, List.getElem?_map, hv, hyt, Option.map_some, Option.map_some, z]
                exact hj ((List.getElem?_inj (by rw [List.length_map]; exact hjl) hnd).mp q1)
              refine ⟨es', by rw [upd_ne ne]; exact s25 _ _ g1, ?_⟩
              rw [g2]
              by_cases h : j < i2
              · rw [if_pos h, if_pos (Nat.lt_succ_of_lt h)]
              · rw [if_neg h, if_neg (by omega)]
          · have d1 := O.d1
            have d3 := O.d3
            refine ⟨(by show 1 ≤ sizeLine; decide), fun t1 ht1 => ⟨_, rfl, t1, d, [.int 0], rfl, rfl, Or.inl (Or.inl upd_same), by simp, d1, by omega, by decide, fun _ => ?_, fun _ t2 ht2 => ?_⟩⟩
            · exact ⟨t1, rfl, snew ht1⟩
            · exact ⟨t2, rfl, same_tr (snew ht1) (snew ht2)⟩
        · rintro σ H23 ⟨yy, rfl, nl, rk, tb, hrp', hls⟩
          have zl : zs.length = tls.length := Paired.length hpr
          have tl6 : tls.length = ts.length := by rw [← e1, List.length_map]
          have SX := (lap.sx.mono sH).nl nl
          have SY := (lap.sy.mono sH).nl nl
          refine ⟨_, rfl, _, rfl, eq_sys SX SY Os.ok ⟨_, rfl, iteF ?_⟩⟩
          obtain ⟨sdx2, stt2, skv2, o12, _⟩ := id SX.ob
          have nf2 : ∀ {y : Str}, ¬ y = "_dimensions" → ¬ y = "_modulus" → ¬ y = "_tables" → (flds d md stt2).lookup y = none := fun a b c => flds_no _ _ _ a b c
          refine ⟨_, rfl, x, sdx2, _, rfl, o12, nf2 (by decide +kernel) (by decide +kernel) (by decide +kernel), x, d, md, srt ts, rfl, SX, Os.ok.nodup, Nat.le_trans Os.ok.few (by decide), fun pa H24 hpa s24 LA => ?_⟩
          obtain ⟨as, ha1, ha2⟩ := LA
          have al : as.length = (ts.map fun t => t.rs.length).sum := by
            rw [dps_len ha2, List.length_map, named_len]
            exact ((srt_perm ts).map fun t => t.rs.length).sum_nat
          refine ⟨pa, as, rfl, Or.inl (Or.inl (Or.inl ha1)), ?_⟩
          refine ⟨_, rfl, rp, rfl, ⟨_, Or.inl (Or.inl (s24 _ _ hrp'))⟩, fun D hD => ?_⟩
          refine lc_it (walk_list (K := K) (a := rp) (xs := zs)) (fun i2 H' => H' D = some (.lst (((tls.take i2).map fun v : Tb × Addr => ((v.1.rs.length : Nat) : Int)).map V.int)) ∧ Same H24 H') ⟨upd_same, snew hD⟩ (fun i2 H' _ ⟨_, b⟩ => Or.inl (Or.inl (b _ _ (s24 _ _ hrp')))) ?_ ?_
          · rintro i2 v _ H25 hi2 ⟨b1, b2⟩ ⟨rfl, hy⟩
            obtain ⟨yt, hyt, u, _, rfl, hu1, _, _⟩ := paired_at hpr hy
            obtain ⟨es, hl23, el⟩ := hls i2 yt hyt
            rw [if_pos hi2] at el
            have s25 := same_tr s24 b2
            refine ⟨rfl, yes_if ?_⟩
            refine ⟨_, rfl, u, _, 2, _, rfl, rfl, sqt s25 (sqtt nl.st (sqt sH hu1)), rfl, yt.2, es, rfl, Or.inl (Or.inl (Or.inl (s25 _ _ hl23))), _, _, rfl, rfl, ?_⟩
            refine ⟨_, b1, small1000 (by rw [List.length_map, List.length_map, List.length_take]; omega), ?_, swrite b2 hD⟩
            dsimp only
            rw [upd_same, el, List.take_add_one, hyt, List.map_append, List.map_append, show (((yt.1.rs.length + 1 : Nat) : Int) - 1) = ((yt.1.rs.length : Nat) : Int) by omega]
            rfl
          · rintro H25 ⟨b1, b2⟩
            rw [zl, List.take_length] at b1
            refine ⟨D, _, rfl, Or.inl (Or.inl b1), rfl, ?_⟩
            have es : ((tls.map fun v : Tb × Addr => ((v.1.rs.length : Nat) : Int)).sum) = ((as.length : Nat) : Int) := by
              rw [al, ← e1]
              exact sum_rows tls
            refine ⟨_, rfl, ?_⟩
            rw [es, decide_eq_true rfl]
            refine iteF ?_
            have s25 := same_tr s24 b2
            exact ⟨_, _, _, _, _, _, _, _, _, _, _, _, rfl, (rng_same rk s25).mono (by omega), tb.ext s25⟩
      · refine ⟨_, rfl, _, _, rfl, rfl, _, rfl, ite2 (fun h => ?_) (fun h => ?_)⟩
        · refine ⟨_, rfl, _, rfl, r, rp0, _, cutr H6 r, d, md, ts0, rfl, RS.cut R6'.ok, (RL6.mono (same_cut R6')).ld, O0, by omega, fun p B' H' us s' R' RL' O' _ => ?_⟩
          exact ⟨p, B', us, rfl, R'.mono (by omega), tabs_cut hT6 R6'.ok (same_tr s' R'.s), RL', O'⟩
        · exact ⟨_, rfl, rp0, B6, ts0, rfl, R6'.mono (by omega), hT6, RL6, O0⟩
    · rintro σ H2 ⟨y2, y3, y4, y5, y6, y7, y8, y9, y10, y11, y12, y13, rfl, rok2, hT2⟩
      have z1 : 1 ≤ sizeLine := by decide
      have z2 : 2 ≤ sizeLine := by decide
      have z3 : 3 ≤ sizeLine := by decide
      clear hT1 rok hlap
      refine ⟨12, rfl, by decide, by decide, fun D hD => ?_⟩
      refine lc_it walk_range (fun j H' => ∃ (B2 : Hp) (es : List V), Same H2 B2 ∧ B2 D = none ∧ Same B2 H' ∧ H' D = some (.lst es) ∧ DpAll K B2 es ((mn12 j).map Rd1.d)) ⟨H2, [], same_refl, hD, snew hD, upd_same, .nil⟩ (fun _ _ _ _ => True.intro) ?_ ?_
      · rintro j y _ Hj hj ⟨B2, es, c1, c2, c3, c4, c5⟩ ⟨rfl, rfl⟩
        have hj12 : j < 12 := hj
        refine ⟨rfl, yes_if ?_⟩
        refine ⟨z1, fun u1 hu1 => ⟨_, rfl, Or.inl ⟨_, rfl, _, _, rfl, rfl, (by show (0 : Int) < 9; decide), _, _, rfl, rfl, z3, fun u2 hu2 => ?_⟩⟩⟩
        dsimp only
        rw [Int.zero_add]
        have b1 := free_of c3 hu1
        have n1 : D ≠ u1 := ne_of_none c4 hu1
        have s1 := sgrow (p := u1) (o := .tup [.int 1]) c3
        have k1 : (upd B2 u1 (.tup [.int 1])) D = none := by rw [upd_ne n1]; exact c2
        have at1 : (upd B2 u1 (.tup [.int 1])) u1 = some (.tup [.int 1]) := upd_same
        have D1 := snew (o := .tup [.int 1]) hu1 _ _ c4
        have sB := snew (o := .tup [.int 1]) b1
        generalize upd B2 u1 (.tup [.int 1]) = B3 at s1 k1 at1 sB
        generalize upd Hj u1 (.tup [.int 1]) = H3 at s1 D1 hu2
        have b2 := free_of s1 hu2
        have n2 : D ≠ u2 := ne_of_none D1 hu2
        have k2 : (upd B3 u2 (.tup [.str "a", .ref u1, .int (1 + (j : Nat) % 9)])) D = none := by rw [upd_ne n2]; exact k1
        have lj : es.length = j := by rw [dps_len c5, List.length_map]; unfold mn12; rw [List.length_map, List.length_range]
        refine ⟨es, by rw [upd_ne n2]; exact D1, small1000 (by omega), upd B3 u2 (.tup [.str "a", .ref u1, .int (1 + (j : Nat) % 9)]), es ++ [.ref u2], same_tr c1 (same_tr sB (snew b2)), k2, swrite (sgrow s1) k2, upd_same, ?_⟩
        have e : mn12 (j + 1) = mn12 j ++ [⟨"a", [1], 1 + ((j : Nat) : Int) % 9⟩] := by
          unfold mn12
          rw [List.range_succ, List.map_append]
          rfl
        rw [e, List.map_append]
        exact dps_snoc (dpsm (same_tr sB (snew b2)) _ _ c5) (.tup (Or.inl (Or.inl upd_same)) (.cons (.str _) (.cons (.tup (Or.inl (Or.inl (snew b2 _ _ at1))) (.cons (.int 1) .nil)) (.cons (.int _) .nil))))
      rintro H3 ⟨B2, es, c1, c2, c3, c4, c5⟩
      have c5' : DpAll K H3 es ((mn12 12).map Rd1.d) := dpsm c3 _ _ c5
      have T3 := hT2.ext (same_tr c1 c3)
      clear c1 c2 c3 c5 hD
      -- bare
      refine ⟨Nat.zero_le _, fun l1 hl1 => ⟨z3, fun u1 hu1 => ⟨Nat.zero_le _, fun l2 hl2 => ⟨z3, fun u2 hu2 => ⟨z2, fun lb hlb => ?_⟩⟩⟩⟩⟩
      have s4 : Same H3 (upd (upd (upd (upd (upd H3 l1 (.lst [])) u1 (.tup [.str "rows", .int 0, .ref l1])) l2 (.lst [])) u2 (.tup [.str "rowa", .int 0, .ref l2])) lb (.lst [.ref u1, .ref u2])) := same_tr (snew hl1) (same_tr (snew hu1) (same_tr (snew hl2) (same_tr (snew hu2) (snew hlb))))
      have a1 : (upd (upd (upd (upd (upd H3 l1 (.lst [])) u1 (.tup [.str "rows", .int 0, .ref l1])) l2 (.lst [])) u2 (.tup [.str "rowa", .int 0, .ref l2])) lb (.lst [.ref u1, .ref u2])) u1 = some (.tup [.str "rows", .int 0, .ref l1]) := snew hlb _ _ (snew hu2 _ _ (snew hl2 _ _ upd_same))
      have a2 : (upd (upd (upd (upd (upd H3 l1 (.lst [])) u1 (.tup [.str "rows", .int 0, .ref l1])) l2 (.lst [])) u2 (.tup [.str "rowa", .int 0, .ref l2])) lb (.lst [.ref u1, .ref u2])) l1 = some (.lst []) := snew hlb _ _ (snew hu2 _ _ (snew hl2 _ _ (snew hu1 _ _ upd_same)))
      have a3 : (upd (upd (upd (upd (upd H3 l1 (.lst [])) u1 (.tup [.str "rows", .int 0, .ref l1])) l2 (.lst [])) u2 (.tup [.str "rowa", .int 0, .ref l2])) lb (.lst [.ref u1, .ref u2])) u2 = some (.tup [.str "rowa", .int 0, .ref l2]) := snew hlb _ _ upd_same
      have a4 : (upd (upd (upd (upd (upd H3 l1 (.lst [])) u1 (.tup [.str "rows", .int 0, .ref l1])) l2 (.lst [])) u2 (.tup [.str "rowa", .int 0, .ref l2])) lb (.lst [.ref u1, .ref u2])) l2 = some (.lst []) := snew hlb _ _ (snew hu2 _ _ upd_same)
      have a5 : (upd (upd (upd (upd (upd H3 l1 (.lst [])) u1 (.tup [.str "rows", .int 0, .ref l1])) l2 (.lst [])) u2 (.tup [.str "rowa", .int 0, .ref l2])) lb (.lst [.ref u1, .ref u2])) lb = some (.lst [.ref u1, .ref u2]) := upd_same
      generalize upd (upd (upd (upd (upd H3 l1 (.lst [])) u1 (.tup [.str "rows", .int 0, .ref l1])) l2 (.lst [])) u2 (.tup [.str "rowa", .int 0, .ref l2])) lb (.lst [.ref u1, .ref u2]) = H4 at s4 a1 a2 a3 a4 a5
      have db : Dp K H4 (.ref lb) (.list (bare2.map Tb.d)) := .lst (Or.inl (Or.inl a5)) (.cons (.tup (Or.inl (Or.inl a1)) (.cons (.str _) (.cons (.int _) (.cons (.lst (Or.inl (Or.inl a2)) .nil) .nil)))) (.cons (.tup (Or.inl (Or.inl a3)) (.cons (.str _) (.cons (.int _) (.cons (.lst (Or.inl (Or.inl a4)) .nil) .nil)))) .nil))
      clear a1 a2 a3 a4 a5
      have T4 := T3.ext s4
      have c4' := s4 _ _ c4
      have d4 := dpsm s4 _ _ c5'
      clear s4 hl1 hu1 hl2 hu2 hlb c4 c5' T3
      -- many reads
      refine ⟨_, rfl, z3, fun u1 hu1 => ⟨z1, fun l1 hl1 => ?_⟩⟩
      have s5 := same_tr (snew (o := .tup [.str "a", .int 0, .ref D]) hu1) (snew (o := .lst [.ref u1]) hl1)
      have dA : Dp K (upd (upd H4 u1 (.tup [.str "a", .int 0, .ref D])) l1 (.lst [.ref u1])) (.ref l1) (.list ([tbA].map Tb.d)) := .lst (Or.inl (Or.inl upd_same)) (.cons (.tup (Or.inl (Or.inl (snew hl1 _ _ upd_same))) (.cons (.str _) (.cons (.int _) (.cons (.lst (Or.inl (Or.inl (s5 _ _ c4'))) (dpsm s5 _ _ d4)) .nil)))) .nil)
      have db5 := dpm s5 _ _ db
      have T5 := T4.ext s5
      generalize upd (upd H4 u1 (.tup [.str "a", .int 0, .ref D])) l1 (.lst [.ref u1]) = H5 at dA db5 T5
      clear s5 hu1 hl1 c4' d4 T4 db
      refine fun x dx nx ndx nex => mk_sys T5 ok_A dA nx ndx nex fun H6 X6 T6 S6 => ?_
      have db6 := dpdX X6 _ _ db5
      clear nx ndx nex X6 T5 dA db5
      obtain ⟨sdx, stt, skv, o1, _⟩ := id S6.ob
      have nf : ∀ {y : Str}, ¬ y = "_dimensions" → ¬ y = "_modulus" → ¬ y = "_tables" → (flds 1 1000003 stt).lookup y = none := fun a b c => flds_no _ _ _ a b c
      refine ⟨x, sdx, _, rfl, o1, nf (by decide +kernel) (by decide +kernel) (by decide +kernel), x, 1, 1000003, srt [tbA], rfl, S6, by rw [srt1]; exact ok_A.ok.nodup, by rw [srt1]; exact Nat.le_trans ok_A.ok.few (by decide), fun p7 H7 hp7 s7 L7 => ?_⟩
      refine ⟨12, rfl, by decide, by decide, fun D2 hD2 => ?_⟩
      refine lc_it walk_range (fun j H' => ∃ (B2 : Hp) (es : List V), Same H7 B2 ∧ B2 D2 = none ∧ Same B2 H' ∧ H' D2 = some (.lst es) ∧ DpAll K B2 es ((List.range j).map fun k : Nat => nrD ("a", k))) ⟨H7, [], same_refl, hD2, snew hD2, upd_same, .nil⟩ (fun _ _ _ _ => True.intro) ?_ ?_
      · rintro j y _ Hj hj ⟨B2, es, c1, c2, c3, c4, c5⟩ ⟨rfl, rfl⟩
        have hj12 : j < 12 := hj
        refine ⟨rfl, yes_if ?_⟩
        refine ⟨_, rfl, z2, fun u2 hu2 => ?_⟩
        dsimp only
        rw [Int.zero_add]
        have b2 := free_of c3 hu2
        have n2 : D2 ≠ u2 := ne_of_none c4 hu2
        have k2 : (upd B2 u2 (.tup [.str "a", .int (j : Nat)])) D2 = none := by rw [upd_ne n2]; exact c2
        have lj : es.length = j := by rw [dps_len c5, List.length_map, List.length_range]
        refine ⟨es, by rw [upd_ne n2]; exact c4, small1000 (by omega), upd B2 u2 (.tup [.str "a", .int (j : Nat)]), es ++ [.ref u2], same_tr c1 (snew b2), k2, swrite (sgrow c3) k2, upd_same, ?_⟩
        rw [List.range_succ, List.map_append]
        exact dps_snoc (dpsm (snew b2) _ _ c5) (.tup (Or.inl (Or.inl upd_same)) (.cons (.str _) (.cons (.int _) .nil)))
      rintro H8 ⟨B2, es, c1, c2, c3, c4, c5⟩
      have e12 : (named (srt [tbA])).map nrD = (List.range 12).map fun k : Nat => nrD ("a", k) := by
        rw [srt1]
        rfl
      have shA : SeqAt.shaped (.list ((List.range 12).map fun k : Nat => nrD ("a", k))) = true := by decide +kernel
      have s8 := same_tr c1 c3
      have L8 := L7.grow s8
      rw [e12] at L8
      refine ⟨.list ((List.range 12).map fun k : Nat => nrD ("a", k)), .list ((List.range 12).map fun k : Nat => nrD ("a", k)), L8.dp, .lst (Or.inl (Or.inl c4)) (dpsm c3 _ _ c5), shA, shA, ?_⟩
      rw [SeqAt.eqv_refl _ (SeqAt.canLay_of_shaped shA)]
      refine ⟨_, rfl, iteF ?_⟩
      have db8 := dpm (same_tr s7 s8) _ _ db6
      have T8 := T6.ext (same_tr s7 s8)
      clear c1 c2 c3 c4 c5 s8 L8 L7 s7 hp7 hD2 db6 T6 S6 o1 nf shA e12
      -- names, and another number of dimensions
      refine ⟨_, rfl, fun x1 dx1 n1 n2 n3 => mk_sys T8 (ok_bare2 (by decide) (by decide)) db8 n1 n2 n3 fun H9 X9 T9 S9 => ?_⟩
      have db9 := dpdX X9 _ _ db8
      clear n1 n2 n3 X9 T8 db8
      obtain ⟨sdx1, stt1, skv1, o11, _⟩ := id S9.ob
      refine ⟨x1, sdx1, _, rfl, o11, x1, 1, 1000003, srt bare2, rfl, S9, fun pn H10 hpn s10 hn10 => ⟨z2, fun l hl => ?_⟩⟩
      have en : ((srt bare2).map fun t => V.str t.n) = (["rowa", "rows"] : List Str).map V.str := by rw [← bare2_names, List.map_map]; rfl
      rw [en] at hn10
      have shB : SeqAt.shaped (.list ((["rowa", "rows"] : List Str).map .str)) = true := by decide +kernel
      refine ⟨.list ((["rowa", "rows"] : List Str).map .str), .list ((["rowa", "rows"] : List Str).map .str), .lst (Or.inl (Or.inl (snew hl _ _ hn10))) (strs_dps _), .lst (Or.inl (Or.inl upd_same)) (strs_dps (["rowa", "rows"] : List Str)), shB, shB, ?_⟩
      rw [SeqAt.eqv_refl _ (SeqAt.canLay_of_shaped shB)]
      refine ⟨_, rfl, iteT ?_⟩
      have s11 := same_tr s10 (snew (o := .lst ((["rowa", "rows"] : List Str).map V.str)) hl)
      have db11 := dpm s11 _ _ db9
      have T11 := T9.ext s11
      refine ⟨_, rfl, fun x2 dx2 n1 n2 n3 => mk_sys T11 (ok_bare2 (by decide) (by decide)) db11 n1 n2 n3 fun H12 X12 T12 S12 => ?_⟩
      have db12 := dpdX X12 _ _ db11
      refine ⟨_, rfl, fun x3 dx3 n1' n2' n3' => mk_sys T12 (ok_bare2 (by decide) (by decide)) db12 n1' n2' n3' fun H13 X13 T13 S13 => ?_⟩
      have ob1 := (ok_bare2 (d := 1) (by decide) (by decide)).ok.perm (srt_perm bare2).symm
      have ob2 := (ok_bare2 (d := 2) (by decide) (by decide)).ok.perm (srt_perm bare2).symm
      refine eq_sysG (S12.ext X13) S13 ob1 ob2 ?_
      exact ⟨_, rfl, q _⟩
end
end Fr

namespace Fr
open PySem PySem.Spec PyProof.Rows L2
section
variable {P : Program} {w : World} {K : PySem.W.Frag} {mg mb : Str → Option Value} {a : Addr} {cs : List (Addr × Addr)} {s : Shared} {vs : List Value} {ns : List Int}
/-- what is tracked when the law is called: the tables, and the script unless it is written down -/
structure Begin (K : PySem.W.Frag) (cs : List (Addr × Addr)) (a : Addr) (so : Obj) (ns : List Int) (H : Hp) : Prop where
  tab : ∀ p ∈ cs, H p.2 = some (.tbl #[])
  scr : SqL K H a (ns.map V.int)
  only : ∀ b u, H b = some u → (u = .tbl #[] ∧ ∃ p ∈ cs, p.2 = b) ∨ (b = a ∧ u = .frz so (.lst (ns.map V.int)) ∧ K.lookup a = none)
theorem begin_ex (inK : K.In s.heap) (ha : s.heap.get? a = some { cls := .type "list", data := .seq vs.toArray }) (hi : IntsAre vs ns) (hl : ns.length ≤ sizeLine) (hT : ∀ p ∈ cs, s.heap.get? p.2 = some { cls := .none, data := .fields #[] }) :
    ∃ H, Begin K cs a { cls := .type "list", data := .seq vs.toArray } ns H := by
  have na : ¬ ∃ p ∈ cs, p.2 = a := by
    rintro ⟨p, hp, e⟩
    have z := hT p hp
    rw [e, ha] at z
    have z2 : Data.seq vs.toArray _ = Data.fields #[] := congrArg Obj.data (Option.some.inj z)
    cases z2
  haveI : DecidablePred fun b => ∃ p ∈ cs, p.2 = b := fun b => Classical.propDecidable _
  refine ⟨fun b => if ∃ p ∈ cs, p.2 = b then some (.tbl #[]) else if b = a then (match K.lookup a with | none => some (.frz { cls := .type "list", data := .seq vs.toArray } (.lst (ns.map V.int))) | some _ => none) else none, ⟨fun p hp => if_pos ⟨p, hp, rfl⟩, ?_, ?_⟩⟩
  · cases hk : K.lookup a with
    | none =>
      refine .inl (.inr ⟨{ cls := .type "list", data := .seq vs.toArray }, ?_⟩)
      exact (if_neg na).trans (if_pos rfl)
    | some o =>
      have e := inK a o hk
      rw [ha] at e
      cases e
      exact .inr ⟨_, vs.toArray, _, hk, rfl, rfl, rfl, by rw [List.size_toArray, hi.length]; exact hl, by simpa using vals_ints hi⟩
  · intro b u h
    by_cases h1 : ∃ p ∈ cs, p.2 = b
    · rw [if_pos h1] at h
      cases h
      exact .inl ⟨rfl, h1⟩
    · rw [if_neg h1] at h
      by_cases h2 : b = a
      · rw [if_pos h2] at h
        cases hk : K.lookup a with
        | none =>
          rw [hk] at h
          cases h
          exact .inr ⟨h2, rfl, rfl⟩
        | some o =>
          rw [hk] at h
          cases h
      · rw [if_neg h2] at h
        cases h
theorem law_callG {k : Nat} {fa : Addr} {fd : FuncData} {x : Str} {sp : Sp} (inK : K.In s.heap) (hns : s.heap.Ns mainGlobals mg) (hb : s.heap.Ns builtinsNs mb) (hbb : ∀ x : Str, x ≠ "__name__" → mb x = bootBuiltins x) (hlim : s.heap.NoLimit) (hg : s.gens = #[])
    (hT : ∀ p ∈ cs, s.heap.get? p.2 = some { cls := .none, data := .fields #[] }) (nT : ∀ p ∈ cs, K.lookup p.2 = none) (hC : ∀ p ∈ cs, PySem.W.CodeHd s.heap p.1 p.2)
    (hbm : ∃ (bm : Addr) (ob : Obj), mg "__builtins__" = some (.ref bm) ∧ bm ≠ builtinsNs ∧ s.heap.get? bm = some ob ∧ ob.cls = .type "module" ∧ ob.dict = some builtinsNs ∧ ob.data = .plain)
    (ha : s.heap.get? a = some { cls := .type "list", data := .seq vs.toArray }) (hi : IntsAre vs ns) (hl : ns.length ≤ sizeLine) (hr : Room k callerA)
    (F : ∀ base : Heap, K.In base → base.Ns mainGlobals mg → (∀ p ∈ cs, LamX.TabB base mg p.1 p.2) → FnG P w K mg base k fa fd [x] sp) (bind : ∀ (s : Shared) (u : Value), BindsTo s fd ⟨[u], []⟩ [(x, u)])
    (hsp : ∀ H : Hp, (∀ p ∈ cs, H p.2 = some (.tbl #[])) → SqL K H a (ns.map V.int) → sp [.ref a] H (fun v _ => v = .bl true) fun _ _ _ => False) :
    codeAny (model P w) callerA (.call (.ref fa) ⟨[.ref a], []⟩) (fun r s' => r = .ok (.ret (.bool true)) ∧ OldK s.heap s'.heap ∧ s'.os = s.os ∧ AllBare s'.gens) s := by
  obtain ⟨H, B⟩ := begin_ex inK ha hi hl hT
  have hok : HOk P w H s.heap := by
    intro b u h
    rcases B.only b u h with ⟨rfl, p, hp, rfl⟩ | ⟨rfl, rfl, _⟩
    · exact hT p hp
    · exact ⟨ha, by rw [List.length_map]; exact hl, vs, _, vals_ints hi, ha⟩
  -- what is no list and no empty table is not tracked
  have out : ∀ {b : Addr} {o : Obj}, s.heap.get? b = some o → (∀ ys n, o.data ≠ .seq ys n) → o.data ≠ .fields #[] → H b = none := by
    intro b o h1 h2 h3
    cases hb : H b with
    | none => rfl
    | some u =>
      rcases B.only b u hb with ⟨_, p, hp, rfl⟩ | ⟨rfl, _, _⟩
      · rw [hT p hp] at h1
        cases h1
        exact (h3 rfl).elim
      · rw [ha] at h1
        cases h1
        exact (h2 _ _ rfl).elim
  have low : ∀ {b : Addr} {o : Obj}, s.heap.get? b = some o → (∀ ys n, o.data ≠ .seq ys n) → o.data ≠ .fields #[] → (hidT s.heap H).get? b = some o := fun h1 h2 h3 => hidT_get h1 (out h1 h2 h3)
  have nsB : ∀ {b : Addr} {m : Str → Option Value}, s.heap.Ns b m → (hidT s.heap H).Ns b m := by
    rintro b m ⟨o, es, ep, h1, h2, h3⟩
    exact ⟨o, es, ep, low h1 (fun ys n z => by rw [h2] at z; cases z) (fun z => by rw [h2] at z; cases z), h2, h3⟩
  have inB : K.In (hidT s.heap H) := by
    intro b o h
    refine hidT_get (inK b o h) ?_
    cases hb : H b with
    | none => rfl
    | some u =>
      rcases B.only b u hb with ⟨_, p, hp, rfl⟩ | ⟨rfl, _, z⟩
      · rw [nT p hp] at h
        cases h
      · rw [z] at h
        cases h
  have md : L2.Mod K mg (hidT s.heap H) := by
    obtain ⟨mc, l1, l2⟩ := hlim
    exact ⟨inB, nsB hns, ⟨mb, nsB hb, hbb⟩, ⟨mc, nsB l1, l2⟩⟩
  have tb : ∀ p ∈ cs, LamX.TabB (hidT s.heap H) mg p.1 p.2 := by
    intro p hp
    have hp0 := hT p hp
    constructor
    · obtain ⟨o, us, f1, f2, f3, f4, f5, f6, f7, g, r1, r2, r3, r4, r5, r6, r7, r8, ne⟩ := hC p hp
      refine ⟨o, us, f1, f2, f3, f4, f5, f6, f7, low g (fun ys n z => by rw [r2] at z; cases z) (fun z => ?_), r1, r2, r3, r4, r5, r6, r7, r8, ne⟩
      rw [r2] at z
      cases z
      simp at r3
    · obtain ⟨bm, ob, b1, b2, b3, b4, b5, b6⟩ := hbm
      refine ⟨bm, ob, b1, b2, fun z => ?_, fun z => ?_, low b3 (fun ys n z => by rw [b6] at z; cases z) (fun z => by rw [b6] at z; cases z), b4, b5, b6⟩
      · obtain ⟨o, es, ep, e1, e2, _⟩ := hns
        rw [z, e1] at b3
        cases b3
        rw [e2] at b6
        cases b6
      · rw [z, hp0] at b3
        cases b3
        cases b6
    · intro z
      obtain ⟨o, es, ep, e1, e2, _⟩ := hns
      rw [z, hp0] at e1
      cases e1
      cases e2
  have env : Env0 P w K mg (hidT s.heap H) callerA [] s H :=
    { frames := rfl, mod := md, bs := fun _ _ z => of_hidT z, bsz := Nat.le_of_eq (hidT_size _ _), funs := trivial, frf := fun b z => absurd (show b ∈ ([] : List Addr) from z) (List.not_mem_nil), hok := hok, bare := .of_eq hg }
  refine codeAny_mono ((F _ inB (nsB hns) tb).go callerA [] s H ⟨[.ref a], []⟩ [.ref a] [.ref a] _ _ ⟨hr, rfl⟩ env (bind s (.ref a)) (.cons rfl .nil) (hsp H B.tab B.scr)) ?_
  intro rs s2 z
  match rs, z with
  | .error e, z => exact (show False from z).elim
  | .ok .next, z => exact z.elim
  | .ok .brk, z => exact z.elim
  | .ok .cont, z => exact z.elim
  | .ok (.ret u), z =>
    obtain ⟨v, H2, os, bare, un, hok2, ru, rfl⟩ := z
    obtain rfl : u = Value.bool true := ru
    have grow : ∀ p ∈ cs, ∃ more : Array Value, s2.heap.get? p.2 = some { cls := .none, data := .fields more } := fun p hp => by
      obtain ⟨more, e⟩ := un.tbls p.2 #[] (B.tab p hp)
      exact ⟨_, hok2 _ _ e⟩
    have keep : ∀ b o, (¬ ∃ p ∈ cs, p.2 = b) → s.heap.get? b = some o → s2.heap.get? b = some o := by
      intro b o nb h
      cases hb : H b with
      | none => exact un.keep b o h hb (fun z => absurd (show b ∈ ([] : List Addr) from z) List.not_mem_nil) List.not_mem_nil
      | some u =>
        rcases B.only b u hb with ⟨_, z⟩ | ⟨rfl, rfl, _⟩
        · exact (nb z).elim
        · have h1 := (hok _ _ hb).1
          rw [h] at h1
          cases h1
          exact (hok2 _ _ (un.frzs _ _ _ hb)).1
    refine ⟨rfl, ⟨fun b o h => ?_, fun b o h => ?_⟩, os, bare⟩
    · by_cases hb : ∃ p ∈ cs, p.2 = b
      · obtain ⟨p, hp, rfl⟩ := hb
        obtain ⟨more, e⟩ := grow p hp
        have h0 := hT p hp
        rw [h] at h0
        cases h0
        refine .inr (.inl ⟨((hC p hp).tab (hT p hp)).isCodeTable, rfl, #[], more, rfl, ?_⟩)
        rw [Array.empty_append]
        exact e
      · exact .inl (keep b o hb h)
    · by_cases hb : ∃ p ∈ cs, p.2 = b
      · obtain ⟨p, hp, rfl⟩ := hb
        obtain ⟨more, e⟩ := grow p hp
        exact ⟨_, e⟩
      · exact ⟨o, keep b o hb h⟩
/-- what is to be known of a law's def, at the heap behind its program's top -/
def LawAtG (l : PySem.W.OpenLaw) (w : World) (K : PySem.W.Frag) (k n : Nat) (x : Str) (mg : Str → Option Value) (fa : Addr) (h : Heap) : Prop :=
  ∃ (fd : FuncData) (cs : List (Addr × Addr)) (sp : Sp), ((∀ p ∈ cs, h.get? p.2 = some { cls := .none, data := .fields #[] }) ∧ (∀ p ∈ cs, K.lookup p.2 = none) ∧ ∀ p ∈ cs, PySem.W.CodeHd h p.1 p.2) ∧ (∀ (s : Shared) (u : Value), BindsTo s fd ⟨[u], []⟩ [(x, u)]) ∧
    (∀ (H : Hp) (a : Addr) (ns : List Int), ns.length ≤ n → (∀ p ∈ cs, H p.2 = some (.tbl #[])) → SqL K H a (ns.map V.int) → sp [.ref a] H (fun v _ => v = .bl true) fun _ _ _ => False) ∧
    ∀ base : Heap, K.In base → base.Ns mainGlobals mg → (∀ p ∈ cs, LamX.TabB base mg p.1 p.2) → FnG l.prog w K mg base k fa fd [x] sp
theorem walk_ofG {l : PySem.W.OpenLaw} {n k : Nat} {q : Program} {loose : List Str} {XP : (Str → Option Value) → Heap → Prop} {YP : World → Heap → Prop} {d : DefRec} {K : Params → PySem.W.Frag} {x : Str}
    (hn : l.most = some n) (hz : n ≤ sizeLine) (hdf : d.params.defaults = []) (hr : Room k callerA) (hY : ∀ (w : World) (h : Heap), YP w h → (K w.params).In h)
    (F : ∀ (w : World) (mg : Str → Option Value) (fa : Addr) (h : Heap), YP w h → (K w.params).In h → h.Ns mainGlobals mg → mg d.name = some (.ref fa) → LawAtG l w (K w.params) k n x mg fa h) : PySem.W.WalkO q loose XP YP l.row.toRowW d [] (fun f vs => PySem.call f vs) := by
  refine Att.attach_callB hn hdf ?_
  intro w _ s mg mb fa _ _ _ _ a vs ns G Y _ _ _ hmg hobj hints hlen _ hg
  have inK := hY w _ Y
  obtain ⟨fd, cs, sp, ⟨h1, h2, h3⟩, hb, hsp, hF⟩ := F w mg fa _ Y inK G.T.g hmg
  exact law_callG inK G.T.g G.T.b G.T.builtins G.T.nolimit hg h1 h2 h3 G.T.bmain hobj hints (Nat.le_trans hlen hz) hr hF hb fun H t => hsp H a ns hlen t
end
end Fr

namespace Fr
open PySem PySem.Spec PyProof.Rows L2
theorem kb1 {K : PySem.W.Frag} {fd : FuncData} {a b : Str} (h : ∀ (s : Shared) (u v : Value), BindsTo s fd ⟨[u], [(b, v)]⟩ [(a, u), (b, v)]) : L2.KBinds K fd [a, b] [b] kw1 kw1 :=
  ⟨fun s us ws _ hlen => (match us, ws, hlen with
    | [u], [v], _ => h s u v
    | [], _, h => absurd h (by simp [kw1])
    | [_], [], h => absurd h (by simp [kw1])
    | [_], _ :: _ :: _, h => absurd h (by simp [kw1])
    | _ :: _ :: _, _, h => absurd h (by simp [kw1])), fun hv hz => by
    cases hv with
    | nil => exact .nil
    | cons h1 h2 =>
      cases h2 with
      | nil =>
        cases hz with
        | nil => exact .nil
        | cons h3 h4 =>
          cases h4 with
          | nil => exact .cons h1 (.cons h3 .nil)
          | cons _ _ => exact .nil
      | cons _ _ => exact .nil⟩
theorem all_mk {l : PySem.W.OpenLaw} {w : World} {K : PySem.W.Frag} {h : Heap} {mg : Str → Option Value} {fa : Addr} (X : K.In h) (G : h.Ns mainGlobals mg) (hfa : mg "law" = some (.ref fa))
    {C c0 Pt T0 fI f1 f2 f3 f4 f5 f6 f7 f8 f9 f10 f11 f12 f13 f14 f15 pPdimensions gPdimensions pPmodulus gPmodulus pPnames gPnames fMreads fMconstant fMall_reads fMlen fMeq : Addr} {od1 an1 od2 an2 od3 an3 od4 an4 od5 an5 od6 an6 od7 an7 od8 an8 od9 an9 od10 an10 od11 an11 od12 an12 od13 an13 od14 an14 od15 an15 odPdimensions anPdimensions odPmodulus anPmodulus odPnames anPnames odMreads anMreads odMconstant anMconstant odMall_reads anMall_reads odMlen anMlen odMeq anMeq odI anI odT : Option Addr} {sl1 sl2 sl3 sl4 sl5 sl6 sl7 sl8 sl9 sl10 sl11 sl12 sl13 sl14 sl15 slPdimensions slPmodulus slPnames slMreads slMconstant slMall_reads slMlen slMeq slI slT : Array (Option Value)} {oc1 kV1 dc1 pm1 ct1 cd1 oc2 kV2 dc2 pm2 ct2 cd2 oc3 kV3 dc3 pm3 ct3 cd3 oc4 kV4 dc4 pm4 ct4 cd4 oc5 kV5 dc5 pm5 ct5 cd5 oc6 kV6 dc6 pm6 ct6 cd6 oc7 kV7 dc7 pm7 ct7 cd7 oc8 kV8 dc8 pm8 ct8 cd8 oc9 kV9 dc9 pm9 ct9 cd9 oc10 kV10 dc10 pm10 ct10 cd10 oc11 kV11 dc11 pm11 ct11 cd11 oc12 kV12 dc12 pm12 ct12 cd12 oc13 kV13 dc13 pm13 ct13 cd13 oc14 kV14 dc14 pm14 ct14 cd14 oc15 kV15 dc15 pm15 ct15 cd15 ocPdimensions kVPdimensions dcPdimensions pmPdimensions ctPdimensions cdPdimensions ocPmodulus kVPmodulus dcPmodulus pmPmodulus ctPmodulus cdPmodulus ocPnames kVPnames dcPnames pmPnames ctPnames cdPnames ocMreads kVMreads dcMreads pmMreads ctMreads cdMreads ocMconstant kVMconstant dcMconstant pmMconstant ctMconstant cdMconstant ocMall_reads kVMall_reads dcMall_reads pmMall_reads ctMall_reads cdMall_reads ocMlen kVMlen dcMlen pmMlen ctMlen cdMlen ocMeq kVMeq dcMeq pmMeq ctMeq cdMeq ocI kVI dcI pmI ctI ocT : Value} {restPdimensions restPmodulus restPnames : List Value} {tT t_MOST_DIMENSIONS t_MOST_TABLES t_MOST_READS t_MOST_LETTERS : Tok} {nT : Nat}
    (a1 : PySem.W.nsIn K mainGlobals "is_name" = some (some (.ref f1)))
    (l1 : K.lookup f1 = some ⟨oc1, od1, .func (PySem.W.fnOf "is_name" "is_name" (defArgs s_is_name) (defBody s_is_name) (defScope s_is_name) .none kV1 dc1 pm1 an1 cd1 ct1), sl1⟩)
    (e1 : PySem.W.codeIn K cd1 "is_name" = true)
    (k1 : PySem.W.keepIn K (.ref f1) = true)
    (a2 : PySem.W.nsIn K mainGlobals "is_read" = some (some (.ref f2)))
    (l2 : K.lookup f2 = some ⟨oc2, od2, .func (PySem.W.fnOf "is_read" "is_read" (defArgs s_is_read) (defBody s_is_read) (defScope s_is_read) .none kV2 dc2 pm2 an2 cd2 ct2), sl2⟩)
    (e2 : PySem.W.codeIn K cd2 "is_read" = true)
    (k2 : PySem.W.keepIn K (.ref f2) = true)
    (a3 : PySem.W.nsIn K mainGlobals "check_table" = some (some (.ref f3)))
    (l3 : K.lookup f3 = some ⟨oc3, od3, .func (PySem.W.fnOf "check_table" "check_table" (defArgs s_check_table) (defBody s_check_table) (defScope s_check_table) .none kV3 dc3 pm3 an3 cd3 ct3), sl3⟩)
    (e3 : PySem.W.codeIn K cd3 "check_table" = true)
    (k3 : PySem.W.keepIn K (.ref f3) = true)
    (a4 : PySem.W.nsIn K mainGlobals "check_tables" = some (some (.ref f4)))
    (l4 : K.lookup f4 = some ⟨oc4, od4, .func (PySem.W.fnOf "check_tables" "check_tables" (defArgs s_check_tables) (defBody s_check_tables) (defScope s_check_tables) .none kV4 dc4 pm4 an4 cd4 ct4), sl4⟩)
    (e4 : PySem.W.codeIn K cd4 "check_tables" = true)
    (k4 : PySem.W.keepIn K (.ref f4) = true)
    (a5 : PySem.W.nsIn K mainGlobals "check_tables_that_are_read" = some (some (.ref f5)))
    (l5 : K.lookup f5 = some ⟨oc5, od5, .func (PySem.W.fnOf "check_tables_that_are_read" "check_tables_that_are_read" (defArgs s_check_tables_that_are_read) (defBody s_check_tables_that_are_read) (defScope s_check_tables_that_are_read) .none kV5 dc5 pm5 an5 cd5 ct5), sl5⟩)
    (e5 : PySem.W.codeIn K cd5 "check_tables_that_are_read" = true)
    (k5 : PySem.W.keepIn K (.ref f5) = true)
    (a6 : PySem.W.nsIn K mainGlobals "check_system" = some (some (.ref f6)))
    (l6 : K.lookup f6 = some ⟨oc6, od6, .func (PySem.W.fnOf "check_system" "check_system" (defArgs s_check_system) (defBody s_check_system) (defScope s_check_system) .none kV6 dc6 pm6 an6 cd6 ct6), sl6⟩)
    (e6 : PySem.W.codeIn K cd6 "check_system" = true)
    (k6 : PySem.W.keepIn K (.ref f6) = true)
    (a7 : PySem.W.nsIn K mainGlobals "_law_rng" = some (some (.ref f7)))
    (l7 : K.lookup f7 = some ⟨oc7, od7, .func (PySem.W.fnOf "_law_rng" "_law_rng" (defArgs s_Lrng) (defBody s_Lrng) (defScope s_Lrng) .none kV7 dc7 pm7 an7 cd7 ct7), sl7⟩)
    (e7 : PySem.W.codeIn K cd7 "_law_rng" = true)
    (k7 : PySem.W.keepIn K (.ref f7) = true)
    (a8 : PySem.W.nsIn K mainGlobals "_law_draw" = some (some (.ref f8)))
    (l8 : K.lookup f8 = some ⟨oc8, od8, .func (PySem.W.fnOf "_law_draw" "_law_draw" (defArgs s_Ldraw) (defBody s_Ldraw) (defScope s_Ldraw) .none kV8 dc8 pm8 an8 cd8 ct8), sl8⟩)
    (e8 : PySem.W.codeIn K cd8 "_law_draw" = true)
    (k8 : PySem.W.keepIn K (.ref f8) = true)
    (a9 : PySem.W.nsIn K mainGlobals "_law_mixed" = some (some (.ref f9)))
    (l9 : K.lookup f9 = some ⟨oc9, od9, .func (PySem.W.fnOf "_law_mixed" "_law_mixed" (defArgs s_Lmixed) (defBody s_Lmixed) (defScope s_Lmixed) .none kV9 dc9 pm9 an9 cd9 ct9), sl9⟩)
    (e9 : PySem.W.codeIn K cd9 "_law_mixed" = true)
    (k9 : PySem.W.keepIn K (.ref f9) = true)
    (a10 : PySem.W.nsIn K mainGlobals "_law_vector" = some (some (.ref f10)))
    (l10 : K.lookup f10 = some ⟨oc10, od10, .func (PySem.W.fnOf "_law_vector" "_law_vector" (defArgs s_Lvector) (defBody s_Lvector) (defScope s_Lvector) .none kV10 dc10 pm10 an10 cd10 ct10), sl10⟩)
    (e10 : PySem.W.codeIn K cd10 "_law_vector" = true)
    (k10 : PySem.W.keepIn K (.ref f10) = true)
    (a11 : PySem.W.nsIn K mainGlobals "_law_made_rows" = some (some (.ref f11)))
    (l11 : K.lookup f11 = some ⟨oc11, od11, .func (PySem.W.fnOf "_law_made_rows" "_law_made_rows" (defArgs s_Lmade_rows) (defBody s_Lmade_rows) (defScope s_Lmade_rows) .none kV11 dc11 pm11 an11 cd11 ct11), sl11⟩)
    (e11 : PySem.W.codeIn K cd11 "_law_made_rows" = true)
    (k11 : PySem.W.keepIn K (.ref f11) = true)
    (a12 : PySem.W.nsIn K mainGlobals "_law_likewise" = some (some (.ref f12)))
    (l12 : K.lookup f12 = some ⟨oc12, od12, .func (PySem.W.fnOf "_law_likewise" "_law_likewise" (defArgs s_Llikewise) (defBody s_Llikewise) (defScope s_Llikewise) .none kV12 dc12 pm12 an12 cd12 ct12), sl12⟩)
    (e12 : PySem.W.codeIn K cd12 "_law_likewise" = true)
    (k12 : PySem.W.keepIn K (.ref f12) = true)
    (a13 : PySem.W.nsIn K mainGlobals "_law_changed" = some (some (.ref f13)))
    (l13 : K.lookup f13 = some ⟨oc13, od13, .func (PySem.W.fnOf "_law_changed" "_law_changed" (defArgs s_Lchanged) (defBody s_Lchanged) (defScope s_Lchanged) .none kV13 dc13 pm13 an13 cd13 ct13), sl13⟩)
    (e13 : PySem.W.codeIn K cd13 "_law_changed" = true)
    (k13 : PySem.W.keepIn K (.ref f13) = true)
    (a14 : PySem.W.nsIn K mainGlobals "_law_right" = some (some (.ref f14)))
    (l14 : K.lookup f14 = some ⟨oc14, od14, .func (PySem.W.fnOf "_law_right" "_law_right" (defArgs s_Lright) (defBody s_Lright) (defScope s_Lright) .none kV14 dc14 pm14 an14 cd14 ct14), sl14⟩)
    (e14 : PySem.W.codeIn K cd14 "_law_right" = true)
    (k14 : PySem.W.keepIn K (.ref f14) = true)
    (a15 : PySem.W.nsIn K mainGlobals "law" = some (some (.ref f15)))
    (l15 : K.lookup f15 = some ⟨oc15, od15, .func (PySem.W.fnOf "law" "law" (defArgs s_law) (defBody s_law) (defScope s_law) .none kV15 dc15 pm15 an15 cd15 ct15), sl15⟩)
    (e15 : PySem.W.codeIn K cd15 "law" = true)
    (k15 : PySem.W.keepIn K (.ref f15) = true)
    (aC : PySem.W.nsIn K mainGlobals "System" = some (some (.ref C)))
    (atPdimensions : PySem.W.findIn K (.ref C) "dimensions" = some (some (.ref pPdimensions)))
    (gePdimensions : PySem.W.specialIn K (.ref pPdimensions) "__get__" = some (some (.builtin "property.__get__")))
    (taPdimensions : PySem.W.takesIn K (.ref pPdimensions) = some true)
    (rePdimensions : PySem.W.recIn K pPdimensions "property" = some (.ref gPdimensions :: restPdimensions))
    (lPdimensions : K.lookup gPdimensions = some ⟨ocPdimensions, odPdimensions, .func (PySem.W.fnOf "dimensions" "System.dimensions" (defArgs s_System_dimensions) (defBody s_System_dimensions) (defScope s_System_dimensions) .none kVPdimensions dcPdimensions pmPdimensions anPdimensions cdPdimensions ctPdimensions), slPdimensions⟩)
    (ePdimensions : PySem.W.codeIn K cdPdimensions "System.dimensions" = true)
    (kPdimensions : PySem.W.keepIn K (.ref gPdimensions) = true)
    (atPmodulus : PySem.W.findIn K (.ref C) "modulus" = some (some (.ref pPmodulus)))
    (gePmodulus : PySem.W.specialIn K (.ref pPmodulus) "__get__" = some (some (.builtin "property.__get__")))
    (taPmodulus : PySem.W.takesIn K (.ref pPmodulus) = some true)
    (rePmodulus : PySem.W.recIn K pPmodulus "property" = some (.ref gPmodulus :: restPmodulus))
    (lPmodulus : K.lookup gPmodulus = some ⟨ocPmodulus, odPmodulus, .func (PySem.W.fnOf "modulus" "System.modulus" (defArgs s_System_modulus) (defBody s_System_modulus) (defScope s_System_modulus) .none kVPmodulus dcPmodulus pmPmodulus anPmodulus cdPmodulus ctPmodulus), slPmodulus⟩)
    (ePmodulus : PySem.W.codeIn K cdPmodulus "System.modulus" = true)
    (kPmodulus : PySem.W.keepIn K (.ref gPmodulus) = true)
    (atPnames : PySem.W.findIn K (.ref C) "names" = some (some (.ref pPnames)))
    (gePnames : PySem.W.specialIn K (.ref pPnames) "__get__" = some (some (.builtin "property.__get__")))
    (taPnames : PySem.W.takesIn K (.ref pPnames) = some true)
    (rePnames : PySem.W.recIn K pPnames "property" = some (.ref gPnames :: restPnames))
    (lPnames : K.lookup gPnames = some ⟨ocPnames, odPnames, .func (PySem.W.fnOf "names" "System.names" (defArgs s_System_names) (defBody s_System_names) (defScope s_System_names) .none kVPnames dcPnames pmPnames anPnames cdPnames ctPnames), slPnames⟩)
    (ePnames : PySem.W.codeIn K cdPnames "System.names" = true)
    (kPnames : PySem.W.keepIn K (.ref gPnames) = true)
    (atMreads : PySem.W.findIn K (.ref C) "reads" = some (some (.ref fMreads)))
    (isMreads : PySem.W.isFn K (.ref fMreads) = true)
    (lMreads : K.lookup fMreads = some ⟨ocMreads, odMreads, .func (PySem.W.fnOf "reads" "System.reads" (defArgs s_System_reads) (defBody s_System_reads) (defScope s_System_reads) .none kVMreads dcMreads pmMreads anMreads cdMreads ctMreads), slMreads⟩)
    (eMreads : PySem.W.codeIn K cdMreads "System.reads" = true)
    (kMreads : PySem.W.keepIn K (.ref fMreads) = true)
    (atMconstant : PySem.W.findIn K (.ref C) "constant" = some (some (.ref fMconstant)))
    (isMconstant : PySem.W.isFn K (.ref fMconstant) = true)
    (lMconstant : K.lookup fMconstant = some ⟨ocMconstant, odMconstant, .func (PySem.W.fnOf "constant" "System.constant" (defArgs s_System_constant) (defBody s_System_constant) (defScope s_System_constant) .none kVMconstant dcMconstant pmMconstant anMconstant cdMconstant ctMconstant), slMconstant⟩)
    (eMconstant : PySem.W.codeIn K cdMconstant "System.constant" = true)
    (kMconstant : PySem.W.keepIn K (.ref fMconstant) = true)
    (atMall_reads : PySem.W.findIn K (.ref C) "all_reads" = some (some (.ref fMall_reads)))
    (isMall_reads : PySem.W.isFn K (.ref fMall_reads) = true)
    (lMall_reads : K.lookup fMall_reads = some ⟨ocMall_reads, odMall_reads, .func (PySem.W.fnOf "all_reads" "System.all_reads" (defArgs s_System_all_reads) (defBody s_System_all_reads) (defScope s_System_all_reads) .none kVMall_reads dcMall_reads pmMall_reads anMall_reads cdMall_reads ctMall_reads), slMall_reads⟩)
    (eMall_reads : PySem.W.codeIn K cdMall_reads "System.all_reads" = true)
    (kMall_reads : PySem.W.keepIn K (.ref fMall_reads) = true)
    (atMlen : PySem.W.findIn K (.ref C) "__len__" = some (some (.ref fMlen)))
    (isMlen : PySem.W.isFn K (.ref fMlen) = true)
    (lMlen : K.lookup fMlen = some ⟨ocMlen, odMlen, .func (PySem.W.fnOf "__len__" "System.__len__" (defArgs s_System_len) (defBody s_System_len) (defScope s_System_len) .none kVMlen dcMlen pmMlen anMlen cdMlen ctMlen), slMlen⟩)
    (eMlen : PySem.W.codeIn K cdMlen "System.__len__" = true)
    (kMlen : PySem.W.keepIn K (.ref fMlen) = true)
    (atMeq : PySem.W.findIn K (.ref C) "__eq__" = some (some (.ref fMeq)))
    (isMeq : PySem.W.isFn K (.ref fMeq) = true)
    (lMeq : K.lookup fMeq = some ⟨ocMeq, odMeq, .func (PySem.W.fnOf "__eq__" "System.__eq__" (defArgs s_System_eq) (defBody s_System_eq) (defScope s_System_eq) .none kVMeq dcMeq pmMeq anMeq cdMeq ctMeq), slMeq⟩)
    (eMeq : PySem.W.codeIn K cdMeq "System.__eq__" = true)
    (kMeq : PySem.W.keepIn K (.ref fMeq) = true)
    (atI : PySem.W.findIn K (.ref C) "__init__" = some (some (.ref fI)))
    (isI : PySem.W.isFn K (.ref fI) = true)
    (lI : K.lookup fI = some ⟨ocI, odI, .func (PySem.W.fnOf "__init__" "System.__init__" (defArgs s_System_init) (defBody s_System_init) (defScope s_System_init) (.ref T0) kVI dcI pmI anI (.ref c0) ctI), slI⟩)
    (eI : PySem.W.codeIn K (.ref c0) "System.__init__" = true)
    (kI : PySem.W.keepIn K (.ref fI) = true)
    (lT : K.lookup T0 = some ⟨ocT, odT, .seq [Value.int 1000003 tT].toArray nT, slT⟩)
    (pg : PySem.W.plainGet K C Str.empty = true)
    (hd : PySem.W.hasDictIn K C = true)
    (po : PySem.W.plainOver K C = true)
    (sa : PySem.W.findIn K (.ref C) "__setattr__" = some (some (.builtin "object.__setattr__")))
    (mk : PySem.W.makesIn K C = true)
    (kc : PySem.W.keepIn K (.ref C) = true)
    (haC : PySem.W.findIn K (.ref C) "__class__" = some (some (.builtin "object.__class__")))
    (hnC : PySem.W.specialIn K (.builtin "object.__class__") "__get__" = some (some (.builtin "getset_descriptor.__get__")))
    (htC : PySem.W.takesIn K (.builtin "object.__class__") = some true)
    (hmC : PySem.W.mroIn K C (.type "object") = some true)
    (nfl : PySem.W.notFirst K C (.type "list") = true)
    (kil : PySem.W.kitOne K (.type "list") (.ref C) = some false)
    (nfs : PySem.W.notFirst K C (.type "str") = true)
    (kis : PySem.W.kitOne K (.type "str") (.ref C) = some false)
    (nfi : PySem.W.notFirst K C (.type "int") = true)
    (kii : PySem.W.kitOne K (.type "int") (.ref C) = some false)
    (n_dimensions : PySem.W.findIn K (.ref C) "_dimensions" = some none)
    (n_modulus : PySem.W.findIn K (.ref C) "_modulus" = some none)
    (n_tables : PySem.W.findIn K (.ref C) "_tables" = some none)
    (z_len : PySem.W.nsIn K mainGlobals "len" = some none)
    (z_all : PySem.W.nsIn K mainGlobals "all" = some none)
    (z_min : PySem.W.nsIn K mainGlobals "min" = some none)
    (z_abs : PySem.W.nsIn K mainGlobals "abs" = some none)
    (z_int : PySem.W.nsIn K mainGlobals "int" = some none)
    (z_list : PySem.W.nsIn K mainGlobals "list" = some none)
    (z_tuple : PySem.W.nsIn K mainGlobals "tuple" = some none)
    (z_range : PySem.W.nsIn K mainGlobals "range" = some none)
    (z_zip : PySem.W.nsIn K mainGlobals "zip" = some none)
    (z_enumerate : PySem.W.nsIn K mainGlobals "enumerate" = some none)
    (z_sorted : PySem.W.nsIn K mainGlobals "sorted" = some none)
    (z_repr : PySem.W.nsIn K mainGlobals "repr" = some none)
    (z_isinstance : PySem.W.nsIn K mainGlobals "isinstance" = some none)
    (z_dict : PySem.W.nsIn K mainGlobals "dict" = some none)
    (z_sum : PySem.W.nsIn K mainGlobals "sum" = some none)
    (v_MOST_DIMENSIONS : PySem.W.nsIn K mainGlobals "MOST_DIMENSIONS" = some (some (.int 3 t_MOST_DIMENSIONS)))
    (v_MOST_TABLES : PySem.W.nsIn K mainGlobals "MOST_TABLES" = some (some (.int 6 t_MOST_TABLES)))
    (v_MOST_READS : PySem.W.nsIn K mainGlobals "MOST_READS" = some (some (.int 12 t_MOST_READS)))
    (v_MOST_LETTERS : PySem.W.nsIn K mainGlobals "MOST_LETTERS" = some (some (.int 8 t_MOST_LETTERS)))
    (hPt : h.get? Pt = some { cls := .none, data := .fields #[] })
    (nPt : K.lookup Pt = none)
    (hc0 : PySem.W.codeHdIn K c0 Pt = true)
    : LawAtG l w K 7 63 "_law_script" mg fa h := by
  have e := hfa.symm.trans (PySem.W.mg_of X G a15)
  cases e
  have T : Txt mg := ⟨PySem.W.mg_none_of X G z_len, PySem.W.mg_none_of X G z_all, PySem.W.mg_none_of X G z_min, PySem.W.mg_none_of X G z_abs, PySem.W.mg_none_of X G z_int, PySem.W.mg_none_of X G z_list, PySem.W.mg_none_of X G z_tuple, PySem.W.mg_none_of X G z_range, PySem.W.mg_none_of X G z_zip, PySem.W.mg_none_of X G z_enumerate, PySem.W.mg_none_of X G z_sorted, ⟨_, PySem.W.mg_of X G v_MOST_DIMENSIONS, ⟨_, rfl⟩⟩, ⟨_, PySem.W.mg_of X G v_MOST_TABLES, ⟨_, rfl⟩⟩, ⟨_, PySem.W.mg_of X G v_MOST_READS, ⟨_, rfl⟩⟩, ⟨_, PySem.W.mg_of X G v_MOST_LETTERS, ⟨_, rfl⟩⟩⟩
  have zr := PySem.W.mg_none_of X G z_repr
  have zi := PySem.W.mg_none_of X G z_isinstance
  have zd := PySem.W.mg_none_of X G z_dict
  have zs := PySem.W.mg_none_of X G z_sum
  have cl : Cls K C := ⟨pg, hd, po, sa⟩
  have TC : TxtC K mg C := ⟨cl, n_dimensions, n_modulus, n_tables, PySem.W.mg_of X G aC⟩
  have isC : C8.InsC K C := ⟨cl, haC, hnC, htC, hmC, if_pos (beq_self_eq_true _)⟩
  have F1 := fun_mk (st := s_is_name) l1 e1 k1
  have b1 := F1.binds (ps := ["text"]) fun _ _ _ _ _ _ us hl => match us, hl with | [_], _ => rfl
  have F2 := fun_mk (st := s_is_read) l2 e2 k2
  have b2 := F2.binds (ps := ["read", "dimensions"]) fun _ _ _ _ _ _ us hl => match us, hl with | [_, _], _ => rfl
  have F3 := fun_mk (st := s_check_table) l3 e3 k3
  have b3 := F3.binds (ps := ["system", "name"]) fun _ _ _ _ _ _ us hl => match us, hl with | [_, _], _ => rfl
  have F4 := fun_mk (st := s_check_tables) l4 e4 k4
  have b4 := F4.binds (ps := ["dimensions", "tables"]) fun _ _ _ _ _ _ us hl => match us, hl with | [_, _], _ => rfl
  have F5 := fun_mk (st := s_check_tables_that_are_read) l5 e5 k5
  have b5 := F5.binds (ps := ["tables"]) fun _ _ _ _ _ _ us hl => match us, hl with | [_], _ => rfl
  have F6 := fun_mk (st := s_check_system) l6 e6 k6
  have b6 := F6.binds (ps := ["dimensions", "tables", "modulus"]) fun _ _ _ _ _ _ us hl => match us, hl with | [_, _, _], _ => rfl
  have F7 := fun_mk (st := s_Lrng) l7 e7 k7
  have b7 := F7.binds (ps := ["_law_script"]) fun _ _ _ _ _ _ us hl => match us, hl with | [_], _ => rfl
  have F8 := fun_mk (st := s_Ldraw) l8 e8 k8
  have b8 := F8.binds (ps := ["_law_rng_here", "_law_limit"]) fun _ _ _ _ _ _ us hl => match us, hl with | [_, _], _ => rfl
  have F9 := fun_mk (st := s_Lmixed) l9 e9 k9
  have b9 := F9.binds (ps := ["_law_rng_here", "_law_some"]) fun _ _ _ _ _ _ us hl => match us, hl with | [_, _], _ => rfl
  have F10 := fun_mk (st := s_Lvector) l10 e10 k10
  have b10 := F10.binds (ps := ["_law_rng_here", "_law_dims", "_law_wide"]) fun _ _ _ _ _ _ us hl => match us, hl with | [_, _, _], _ => rfl
  have F11 := fun_mk (st := s_Lmade_rows) l11 e11 k11
  have b11 := F11.binds (ps := ["_law_rng_here", "_law_dims", "_law_many", "_law_most", "_law_wide"]) fun _ _ _ _ _ _ us hl => match us, hl with | [_, _, _, _, _], _ => rfl
  have F12 := fun_mk (st := s_Llikewise) l12 e12 k12
  have b12 := F12.binds (ps := ["_law_rng_here", "_law_rows"]) fun _ _ _ _ _ _ us hl => match us, hl with | [_, _], _ => rfl
  have F13 := fun_mk (st := s_Lchanged) l13 e13 k13
  have b13 := F13.binds (ps := ["_law_rng_here", "_law_dims", "_law_rows"]) fun _ _ _ _ _ _ us hl => match us, hl with | [_, _, _], _ => rfl
  have F14 := fun_mk (st := s_Lright) l14 e14 k14
  have b14 := F14.binds (ps := ["_law_made", "_law_dims", "_law_rows", "_law_base"]) fun _ _ _ _ _ _ us hl => match us, hl with | [_, _, _, _], _ => rfl
  have F15 := fun_mk (st := s_law) l15 e15 k15
  have FPdimensions := fun_mk (st := s_System_dimensions) lPdimensions ePdimensions kPdimensions
  have bPdimensions := FPdimensions.binds (ps := ["self"]) fun _ _ _ _ _ _ us hl => match us, hl with | [_], _ => rfl
  have FPmodulus := fun_mk (st := s_System_modulus) lPmodulus ePmodulus kPmodulus
  have bPmodulus := FPmodulus.binds (ps := ["self"]) fun _ _ _ _ _ _ us hl => match us, hl with | [_], _ => rfl
  have FPnames := fun_mk (st := s_System_names) lPnames ePnames kPnames
  have bPnames := FPnames.binds (ps := ["self"]) fun _ _ _ _ _ _ us hl => match us, hl with | [_], _ => rfl
  have FMreads := fun_mk (st := s_System_reads) lMreads eMreads kMreads
  have bMreads := FMreads.binds (ps := ["self", "name"]) fun _ _ _ _ _ _ us hl => match us, hl with | [_, _], _ => rfl
  have FMconstant := fun_mk (st := s_System_constant) lMconstant eMconstant kMconstant
  have bMconstant := FMconstant.binds (ps := ["self", "name"]) fun _ _ _ _ _ _ us hl => match us, hl with | [_, _], _ => rfl
  have FMall_reads := fun_mk (st := s_System_all_reads) lMall_reads eMall_reads kMall_reads
  have bMall_reads := FMall_reads.binds (ps := ["self"]) fun _ _ _ _ _ _ us hl => match us, hl with | [_], _ => rfl
  have FMlen := fun_mk (st := s_System_len) lMlen eMlen kMlen
  have bMlen := FMlen.binds (ps := ["self"]) fun _ _ _ _ _ _ us hl => match us, hl with | [_], _ => rfl
  have FMeq := fun_mk (st := s_System_eq) lMeq eMeq kMeq
  have bMeq := FMeq.binds (ps := ["self", "other"]) fun _ _ _ _ _ _ us hl => match us, hl with | [_, _], _ => rfl
  have FI : FunC K "__init__" "System.__init__" s_System_init fI _ c0 := ⟨_, _, _, _, _, _, _, _, _, rfl, lI, eI⟩
  have FID : FunD K "__init__" "System.__init__" (defArgs s_System_init) (defBody s_System_init) (defScope s_System_init) [.int 1000003] [] fI _ := ⟨⟨_, _, _, _, _, _, _, _, _, _, rfl, lI, eI, .inr ⟨by simp, T0, _, _, _, rfl, lT, rfl, .cons ⟨_, rfl⟩ .nil⟩, .inl rfl⟩, kI⟩
  obtain ⟨ds, hds, bI⟩ := FID.binds1 (ps := ["self", "dimensions", "tables", "modulus"]) 3 0 (by simp) rfl fun _ _ _ _ _ _ _ us its h1 h2 => match us, its, h1, h2 with | [_, _, _], [_], _, _ => ⟨_, rfl, rfl⟩
  obtain ⟨ds3, hds3, bI3⟩ := FID.binds1 (ps := ["self", "dimensions", "tables", "modulus"]) 4 1 (by simp) rfl fun _ _ _ _ _ _ _ us its h1 h2 => match us, its, h1, h2 with | [_, _, _, _], [_], _, _ => ⟨_, rfl, rfl⟩
  obtain ⟨TT, hTT⟩ : ∃ TT : List (Addr × Str), TT = [(Pt, ("System.__init__.<locals>.<lambda>" : Str))] := ⟨_, rfl⟩
  have hmT : (Pt, ("System.__init__.<locals>.<lambda>" : Str)) ∈ TT := by rw [hTT]; exact List.mem_singleton.mpr rfl
  have huT : ∀ p ∈ TT, p.1 = Pt → p.2 = ("System.__init__.<locals>.<lambda>" : Str) := fun p hp _ => by rw [hTT] at hp; rw [List.mem_singleton.mp hp]
  refine ⟨PySem.W.fnOf "law" "law" (defArgs s_law) (defBody s_law) (defScope s_law) .none kV15 dc15 pm15 an15 cd15 ct15, [(c0, Pt)], spLaw1 K TT, ⟨?_, ?_, ?_⟩, fun s v => .of_eq rfl, ?_, fun base KB GB TB => ?_⟩
  · intro p hp
    rw [List.mem_singleton.mp hp]
    exact hPt
  · intro p hp
    rw [List.mem_singleton.mp hp]
    exact nPt
  · intro p hp
    rw [List.mem_singleton.mp hp]
    exact PySem.W.codeHd_of_K X hc0
  · intro H a ns hl hT hS
    refine ⟨a, ns, rfl, hS, hl, fun p hp => ?_, fun _ => rfl⟩
    rw [hTT] at hp
    rw [List.mem_singleton.mp hp]
    exact LamX.TabS.nil (hT _ (List.mem_singleton.mpr rfl))
  have TBc := TB _ (List.mem_singleton.mpr rfl)
  have c_is_name : C8.Cal l.prog w K mg base 1 "is_name" spIsName [] := ⟨_, _, _, _, ok_is_name F1 T, PySem.W.mg_of X G a1, k1, b1, .nil⟩
  have c_is_read : C8.Cal l.prog w K mg base 2 "is_read" (spIsRead K) [] := ⟨_, _, _, _, ok_is_read F2 T c_is_name, PySem.W.mg_of X G a2, k2, b2, .nil⟩
  have p_dimensions : Prp l.prog w K mg base 1 C "dimensions" (spDims K C) := ⟨_, _, _, _, cl, ⟨atPdimensions, gePdimensions, taPdimensions, _, rePdimensions⟩, ok_dims FPdimensions TC, bPdimensions⟩
  have p_modulus : Prp l.prog w K mg base 1 C "modulus" (spMod K C) := ⟨_, _, _, _, cl, ⟨atPmodulus, gePmodulus, taPmodulus, _, rePmodulus⟩, ok_mod FPmodulus TC, bPmodulus⟩
  have p_names : Prp l.prog w K mg base 1 C "names" (spNames K C) := ⟨_, _, _, _, cl, ⟨atPnames, gePnames, taPnames, _, rePnames⟩, ok_names FPnames T TC, bPnames⟩
  have c_check_table : C8.Cal l.prog w K mg base 3 "check_table" (spCheckTable K C) [] := ⟨_, _, _, _, ok_check_table F3 T p_names, PySem.W.mg_of X G a3, k3, b3, .nil⟩
  have t_reads : C8.Met l.prog w K mg base 4 C "reads" (spReads K C) [] := ⟨_, _, _, _, cl, ⟨atMreads, isMreads, kMreads⟩, ok_reads FMreads T TC c_check_table, bMreads, .nil⟩
  have t_constant : C8.Met l.prog w K mg base 4 C "constant" (spConst K C) [] := ⟨_, _, _, _, cl, ⟨atMconstant, isMconstant, kMconstant⟩, ok_const FMconstant T TC c_check_table, bMconstant, .nil⟩
  have t_all_reads : C8.Met l.prog w K mg base 1 C "all_reads" (spAll K C) [] := ⟨_, _, _, _, cl, ⟨atMall_reads, isMall_reads, kMall_reads⟩, ok_all FMall_reads T TC, bMall_reads, .nil⟩
  have kt_reads : MetK l.prog w K mg base 4 C "reads" (spReads K C) ["name"] kw1 := ⟨_, _, _, kw1, cl, ⟨atMreads, isMreads, kMreads⟩, ok_reads FMreads T TC c_check_table, kb1 fun s u v => .of_eq (by rfl)⟩
  have kt_constant : MetK l.prog w K mg base 4 C "constant" (spConst K C) ["name"] kw1 := ⟨_, _, _, kw1, cl, ⟨atMconstant, isMconstant, kMconstant⟩, ok_const FMconstant T TC c_check_table, kb1 fun s u v => .of_eq (by rfl)⟩
  have c_check_tables : C8.Cal l.prog w K mg base 3 "check_tables" (spCheckTables K) [] := ⟨_, _, _, _, ok_check_tables F4 T c_is_name c_is_read, PySem.W.mg_of X G a4, k4, b4, .nil⟩
  have c_check_tables_that_are_read : C8.Cal l.prog w K mg base 3 "check_tables_that_are_read" (spCheckRead K) [] := ⟨_, _, _, _, ok_check_read F5 T, PySem.W.mg_of X G a5, k5, b5, .nil⟩
  have c_check_system : C8.Cal l.prog w K mg base 4 "check_system" (spCheckSystem K) [] := ⟨_, _, _, _, ok_check_system F6 T c_check_tables c_check_tables_that_are_read, PySem.W.mg_of X G a6, k6, b6, .nil⟩
  have m_System3 : C8.Mak l.prog w K mg base 5 "System" C (spInit K C TT) [] := ⟨_, _, _, ds3, ⟨mk, atI, isI, kc⟩, ok_init FI T TC c_check_system TBc hmT huT, PySem.W.mg_of X G aC, bI3, hds3⟩
  have m_System : C8.Mak l.prog w K mg base 5 "System" C (spInit K C TT) [.int 1000003] := ⟨_, _, _, _, ⟨mk, atI, isI, kc⟩, ok_init FI T TC c_check_system TBc hmT huT, PySem.W.mg_of X G aC, bI, hds⟩
  obtain ⟨itsK, bIK⟩ := FID.kbindsD (ps := ["self", "dimensions", "tables", "modulus"]) 1 ["modulus", "tables", "dimensions"] kwS (by simp) (fun h1 h2 h3 => kwS_rel h1 h2 h3) fun _ _ _ _ _ _ _ us its ws h1 h2 h3 => match us, its, ws, h1, h2, h3 with | [_], [_], [_, _, _], _, _, _ => ⟨_, rfl, rfl⟩
  have m_SystemK : MakK l.prog w K mg base 5 "System" C (spInit K C TT) ["modulus", "tables", "dimensions"] (fun vs zs => kwS vs [.int 1000003] zs) := ⟨_, _, _, _, ⟨mk, atI, isI, kc⟩, ok_init FI T TC c_check_system TBc hmT huT, PySem.W.mg_of X G aC, bIK⟩
  have len_System : LenM l.prog w K mg base 1 C (spLenS K C) := ⟨_, _, _, cl, atMlen, isMlen, ok_lenS FMlen T TC, bMlen⟩
  have eq_System : EqM l.prog w K mg base 1 C (spSysEq K C) := ⟨_, _, _, cl, atMeq, isMeq, ok_eqS FMeq T TC zi isC, bMeq⟩
  have eqo_System : EqM l.prog w K mg base 1 C (spSysNo K C) := ⟨_, _, _, cl, atMeq, isMeq, ok_eqNo FMeq T TC zi, bMeq⟩
  have c_Lrng : C8.Cal l.prog w K mg base 1 "_law_rng" (spRng K) [] := ⟨_, _, _, _, ok_rng F7 T, PySem.W.mg_of X G a7, k7, b7, .nil⟩
  have c_Ldraw : C8.Cal l.prog w K mg base 1 "_law_draw" spDraw [] := ⟨_, _, _, _, ok_draw F8 T, PySem.W.mg_of X G a8, k8, b8, .nil⟩
  have c_Lmixed : C8.Cal l.prog w K mg base 2 "_law_mixed" (spMixed K) [] := ⟨_, _, _, _, ok_mixed F9 T c_Ldraw, PySem.W.mg_of X G a9, k9, b9, .nil⟩
  have c_Lvector : C8.Cal l.prog w K mg base 2 "_law_vector" (spVector K) [] := ⟨_, _, _, _, ok_vector F10 T c_Ldraw, PySem.W.mg_of X G a10, k10, b10, .nil⟩
  have c_Lmade_rows : C8.Cal l.prog w K mg base 3 "_law_made_rows" (spRowsL K) [] := ⟨_, _, _, _, ok_made_rowsL F11 T c_Ldraw c_Lmixed c_Lvector, PySem.W.mg_of X G a11, k11, b11, .nil⟩
  have c_Llikewise : C8.Cal l.prog w K mg base 3 "_law_likewise" (spLike K) [] := ⟨_, _, _, _, ok_like F12 T zd c_Ldraw c_Lmixed, PySem.W.mg_of X G a12, k12, b12, .nil⟩
  have c_Lchanged : C8.Cal l.prog w K mg base 3 "_law_changed" (spChanged K) [] := ⟨_, _, _, _, ok_changed F13 T c_Ldraw c_Lmixed, PySem.W.mg_of X G a13, k13, b13, .nil⟩
  have c_Lright : CalG l.prog w K mg base 5 "_law_right" (spRight1 K C) := ⟨_, _, _, ok_right1 F14 T zr zd TC p_names p_dimensions p_modulus t_constant kt_constant t_reads kt_reads t_all_reads len_System, PySem.W.mg_of X G a14, k14, b14⟩
  exact ok_law1 F15 T zr zs TC nfl nfs nfi kil kis kii c_Lrng c_Ldraw c_Lmade_rows c_Llikewise c_Lchanged c_Lright m_System3 m_System m_SystemK eq_System eqo_System p_names t_reads t_all_reads
end Fr

open PySem PySem.W PyProof.Rows
set_option maxRecDepth 100000 in
set_option maxHeartbeats 0 in
theorem PySem.Challenge.cw_farreads_k01_systems_made_holds : PySem.Challenge.rw_farreads_k01_systems_made.Holds := by
  w_on; o_law; k_head; (case hw => w_witness2)
  k_fill
  refine Fr.walk_ofG (n := 63) (k := 7) (x := "_law_script") (l := PySem.Challenge.rw_farreads_k01_systems_made) rfl (by decide) rfl ⟨rfl, by decide, by decide⟩ (fun w h Y => PySem.W.km_in_of Y) ?F
  case F =>
    intro w mg fa h Y KX G hmg
    have hPt := PySem.W.km_tabs_of Y _ (List.mem_singleton.mpr rfl)
    refine' Fr.all_mk (Pt := _) KX G hmg ?a1 ?l1 ?e1 ?k1 ?a2 ?l2 ?e2 ?k2 ?a3 ?l3 ?e3 ?k3 ?a4 ?l4 ?e4 ?k4 ?a5 ?l5 ?e5 ?k5 ?a6 ?l6 ?e6 ?k6 ?a7 ?l7 ?e7 ?k7 ?a8 ?l8 ?e8 ?k8 ?a9 ?l9 ?e9 ?k9 ?a10 ?l10 ?e10 ?k10 ?a11 ?l11 ?e11 ?k11 ?a12 ?l12 ?e12 ?k12 ?a13 ?l13 ?e13 ?k13 ?a14 ?l14 ?e14 ?k14 ?a15 ?l15 ?e15 ?k15 ?aC ?atPdimensions ?gePdimensions ?taPdimensions ?rePdimensions ?lPdimensions ?ePdimensions ?kPdimensions ?atPmodulus ?gePmodulus ?taPmodulus ?rePmodulus ?lPmodulus ?ePmodulus ?kPmodulus ?atPnames ?gePnames ?taPnames ?rePnames ?lPnames ?ePnames ?kPnames ?atMreads ?isMreads ?lMreads ?eMreads ?kMreads ?atMconstant ?isMconstant ?lMconstant ?eMconstant ?kMconstant ?atMall_reads ?isMall_reads ?lMall_reads ?eMall_reads ?kMall_reads ?atMlen ?isMlen ?lMlen ?eMlen ?kMlen ?atMeq ?isMeq ?lMeq ?eMeq ?kMeq ?atI ?isI ?lI ?eI ?kI ?lT ?pg ?hd ?po ?sa ?mk ?kc ?haC ?hnC ?htC ?hmC ?nfl ?kil ?nfs ?kis ?nfi ?kii ?n_dimensions ?n_modulus ?n_tables ?z_len ?z_all ?z_min ?z_abs ?z_int ?z_list ?z_tuple ?z_range ?z_zip ?z_enumerate ?z_sorted ?z_repr ?z_isinstance ?z_dict ?z_sum ?v_MOST_DIMENSIONS ?v_MOST_TABLES ?v_MOST_READS ?v_MOST_LETTERS hPt ?nPt ?hc0
    (case a1 => k_is)
    (case l1 => k_is)
    (case e1 => k_is)
    (case k1 => k_is)
    (case a2 => k_is)
    (case l2 => k_is)
    (case e2 => k_is)
    (case k2 => k_is)
    (case a3 => k_is)
    (case l3 => k_is)
    (case e3 => k_is)
    (case k3 => k_is)
    (case a4 => k_is)
    (case l4 => k_is)
    (case e4 => k_is)
    (case k4 => k_is)
    (case a5 => k_is)
    (case l5 => k_is)
    (case e5 => k_is)
    (case k5 => k_is)
    (case a6 => k_is)
    (case l6 => k_is)
    (case e6 => k_is)
    (case k6 => k_is)
    (case a7 => k_is)
    (case l7 => k_is)
    (case e7 => k_is)
    (case k7 => k_is)
    (case a8 => k_is)
    (case l8 => k_is)
    (case e8 => k_is)
    (case k8 => k_is)
    (case a9 => k_is)
    (case l9 => k_is)
    (case e9 => k_is)
    (case k9 => k_is)
    (case a10 => k_is)
    (case l10 => k_is)
    (case e10 => k_is)
    (case k10 => k_is)
    (case a11 => k_is)
    (case l11 => k_is)
    (case e11 => k_is)
    (case k11 => k_is)
    (case a12 => k_is)
    (case l12 => k_is)
    (case e12 => k_is)
    (case k12 => k_is)
    (case a13 => k_is)
    (case l13 => k_is)
    (case e13 => k_is)
    (case k13 => k_is)
    (case a14 => k_is)
    (case l14 => k_is)
    (case e14 => k_is)
    (case k14 => k_is)
    (case a15 => k_is)
    (case l15 => k_is)
    (case e15 => k_is)
    (case k15 => k_is)
    (case aC => k_is)
    (case atPdimensions => k_is)
    (case gePdimensions => k_is)
    (case taPdimensions => k_is)
    (case rePdimensions => k_is)
    (case lPdimensions => k_is)
    (case ePdimensions => k_is)
    (case kPdimensions => k_is)
    (case atPmodulus => k_is)
    (case gePmodulus => k_is)
    (case taPmodulus => k_is)
    (case rePmodulus => k_is)
    (case lPmodulus => k_is)
    (case ePmodulus => k_is)
    (case kPmodulus => k_is)
    (case atPnames => k_is)
    (case gePnames => k_is)
    (case taPnames => k_is)
    (case rePnames => k_is)
    (case lPnames => k_is)
    (case ePnames => k_is)
    (case kPnames => k_is)
    (case atMreads => k_is)
    (case isMreads => k_is)
    (case lMreads => k_is)
    (case eMreads => k_is)
    (case kMreads => k_is)
    (case atMconstant => k_is)
    (case isMconstant => k_is)
    (case lMconstant => k_is)
    (case eMconstant => k_is)
    (case kMconstant => k_is)
    (case atMall_reads => k_is)
    (case isMall_reads => k_is)
    (case lMall_reads => k_is)
    (case eMall_reads => k_is)
    (case kMall_reads => k_is)
    (case atMlen => k_is)
    (case isMlen => k_is)
    (case lMlen => k_is)
    (case eMlen => k_is)
    (case kMlen => k_is)
    (case atMeq => k_is)
    (case isMeq => k_is)
    (case lMeq => k_is)
    (case eMeq => k_is)
    (case kMeq => k_is)
    (case atI => k_is)
    (case isI => k_is)
    (case lI => k_is)
    (case eI => k_is)
    (case kI => k_is)
    (case lT => k_is)
    (case pg => k_is)
    (case hd => k_is)
    (case po => k_is)
    (case sa => k_is)
    (case mk => k_is)
    (case kc => k_is)
    (case haC => k_is)
    (case hnC => k_is)
    (case htC => k_is)
    (case hmC => k_is)
    (case nfl => kernel_rfl)
    (case kil => kernel_rfl)
    (case nfs => kernel_rfl)
    (case kis => kernel_rfl)
    (case nfi => kernel_rfl)
    (case kii => kernel_rfl)
    (case n_dimensions => k_is)
    (case n_modulus => k_is)
    (case n_tables => k_is)
    (case z_len => k_is)
    (case z_all => k_is)
    (case z_min => k_is)
    (case z_abs => k_is)
    (case z_int => k_is)
    (case z_list => k_is)
    (case z_tuple => k_is)
    (case z_range => k_is)
    (case z_zip => k_is)
    (case z_enumerate => k_is)
    (case z_sorted => k_is)
    (case z_repr => k_is)
    (case z_isinstance => k_is)
    (case z_dict => k_is)
    (case z_sum => k_is)
    (case v_MOST_DIMENSIONS => k_is)
    (case v_MOST_TABLES => k_is)
    (case v_MOST_READS => k_is)
    (case v_MOST_LETTERS => k_is)
    (case nPt => kernel_rfl)
    (case hc0 => kernel_rfl)
