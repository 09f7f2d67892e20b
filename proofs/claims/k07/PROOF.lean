import PyProof.Rows.All
import Wide.All
import OpenK.AllK
import Wide.FinOn
import HandS.ForMost
import HandS.Wide
import HandS.ForExc
import HandS.Deep
import HandS.Evl
import HandS.Walk
import HandS.Codes
import HandS.Zip
import HandS.Property
import HandS.Defaults
import HandS.TupAny
import HandS.More
import HandS.Lambda
import HandS.SortKw
import KE.SortKeyHeap
import HandS.DictComp
import PySem.Challenge.RW_farreads_k07_ways_looked_at
import HandS.EndTab
import PyProof.ReprRoads
import HandS.RaiseMore
import HandS.Style
set_option Elab.async false
set_option linter.all false
set_option maxRecDepth 100000
set_option maxHeartbeats 8000000
namespace Fr
open PySem PySem.Spec PyProof.Rows L2
section
variable {K : PySem.W.Frag} {H H' : Hp}
theorem sqt (e : Same H H') {a : Addr} {xs : List V} (h : SqT K H a xs) : SqT K H' a xs := Evl.ex_t e h
theorem sql (e : Same H H') {a : Addr} {xs : List V} (h : SqL K H a xs) : SqL K H' a xs := Evl.ex_l e h
/-- lists, tuples, locked things -/
def dat : HO → Bool
  | .lst _ => true
  | .tup _ => true
  | .frz _ _ => true
  | _ => false
/-- what data is made of stays -/
def SD (H H' : Hp) : Prop := ∀ b o, H b = some o → dat o = true → H' b = some o
theorem SD.of (e : Same H H') : SD H H' := fun b o h _ => e b o h
theorem SD.tr {H'' : Hp} (a : SD H H') (b : SD H' H'') : SD H H'' := fun c o h d => b c o (a c o h d) d
theorem SD.upd {s : Addr} {u o : HO} (e : SD H H') (h : H' s = some u) (n : dat u = false) : SD H (upd H' s o) := fun b x q d => by
  have z := e b x q d
  have ne : b ≠ s := fun y => by
    rw [y, h] at z
    cases z
    rw [n] at d
    cases d
  rw [upd_ne ne]
  exact z
theorem sqtd (e : SD H H') {a : Addr} {xs : List V} (h : SqT K H a xs) : SqT K H' a xs := by
  rcases h with (h | ⟨o, h⟩) | h
  · exact .inl (.inl (e _ _ h rfl))
  · exact .inl (.inr ⟨o, e _ _ h rfl⟩)
  · exact .inr h
theorem sqld (e : SD H H') {a : Addr} {xs : List V} (h : SqL K H a xs) : SqL K H' a xs := by
  rcases h with (h | ⟨o, h⟩) | h
  · exact .inl (.inl (e _ _ h rfl))
  · exact .inl (.inr ⟨o, e _ _ h rfl⟩)
  · exact .inr h
mutual
theorem dpd (e : SD H H') : ∀ (d : PyData) (v : V), Dp K H v d → Dp K H' v d
  | .none, _, h => by cases h; exact .non
  | .bool b, _, h => by cases h; exact .bl b
  | .int i, _, h => by cases h; exact .int i
  | .str x, _, h => by cases h; exact .str x
  | .list ds, _, h => by
    cases h with
    | lst hs ha => exact .lst (sqld e hs) (dpsd e ds _ ha)
  | .tuple ds, _, h => by
    cases h with
    | tup hs ha => exact .tup (sqtd e hs) (dpsd e ds _ ha)
  | .dict _, _, h => by cases h
theorem dpsd (e : SD H H') : ∀ (ds : List PyData) (vs : List V), DpAll K H vs ds → DpAll K H' vs ds
  | [], _, h => by cases h; exact .nil
  | d :: ds, _, h => by
    cases h with
    | cons h1 h2 => exact .cons (dpd e d _ h1) (dpsd e ds _ h2)
end
theorem dpm (e : Same H H') (d : PyData) (v : V) (h : Dp K H v d) : Dp K H' v d := dpd (.of e) d v h
theorem dpsm (e : Same H H') (ds : List PyData) (vs : List V) (h : DpAll K H vs ds) : DpAll K H' vs ds := dpsd (.of e) ds vs h
theorem dps_len : ∀ {ds : List PyData} {vs : List V}, DpAll K H vs ds → vs.length = ds.length
  | [], _, h => by cases h; rfl
  | d :: ds, _, h => by
    cases h with
    | cons h1 h2 => exact congrArg Nat.succ (dps_len h2)
theorem dps_get : ∀ {ds : List PyData} {vs : List V} {i : Nat} {v : V}, DpAll K H vs ds → vs[i]? = some v → ∃ d, ds[i]? = some d ∧ Dp K H v d
  | [], _, _, _, h, e => by cases h; cases e
  | d :: ds, _, 0, v, h, e => by
    cases h with
    | cons h1 h2 => cases e; exact ⟨d, rfl, h1⟩
  | d :: ds, _, i + 1, v, h, e => by
    cases h with
    | cons h1 h2 => exact dps_get (i := i) h2 (by simpa using e)
theorem dps_get' : ∀ {ds : List PyData} {vs : List V} {i : Nat} {d : PyData}, DpAll K H vs ds → ds[i]? = some d → ∃ v, vs[i]? = some v ∧ Dp K H v d
  | [], _, _, _, h, e => by cases e
  | d :: ds, _, 0, v, h, e => by
    cases h with
    | cons h1 h2 => cases e; exact ⟨_, rfl, h1⟩
  | d :: ds, _, i + 1, v, h, e => by
    cases h with
    | cons h1 h2 => simpa using dps_get' (i := i) h2 (by simpa using e)
theorem dps_app : ∀ {ds es : List PyData} {vs us : List V}, DpAll K H vs ds → DpAll K H us es → DpAll K H (vs ++ us) (ds ++ es)
  | [], _, _, _, h, k => by cases h; exact k
  | d :: ds, _, _, _, h, k => by
    cases h with
    | cons h1 h2 => exact .cons h1 (dps_app h2 k)
theorem dps_one {v : V} {d : PyData} (h : Dp K H v d) : DpAll K H [v] [d] := .cons h .nil
theorem dps_snoc {ds : List PyData} {vs : List V} {v : V} {d : PyData} (h : DpAll K H vs ds) (k : Dp K H v d) : DpAll K H (vs ++ [v]) (ds ++ [d]) := dps_app h (dps_one k)
/-- a new object leaves what stands -/
theorem snew {p : Addr} {o : HO} (h : H p = none) : Same H (upd H p o) := fun b x e => by
  rw [upd_ne (ne_of_none e h)]
  exact e
theorem smut {p : Addr} {o : HO} (e : Same H H') (h : H p = none) : Same H (upd H' p o) := fun b x q => by
  rw [upd_ne (ne_of_none q h)]
  exact e b x q
theorem dint {v : V} {i : Int} (h : Dp K H v (.int i)) : v = .int i := by cases h; rfl
theorem dstr {v : V} {x : Str} (h : Dp K H v (.str x)) : v = .str x := by cases h; rfl
theorem dtup {v : V} {ds : List PyData} (h : Dp K H v (.tuple ds)) : ∃ a xs, v = .ref a ∧ SqT K H a xs ∧ DpAll K H xs ds := by
  cases h with
  | tup hs ha => exact ⟨_, _, rfl, hs, ha⟩
theorem dlst {v : V} {ds : List PyData} (h : Dp K H v (.list ds)) : ∃ a xs, v = .ref a ∧ SqL K H a xs ∧ DpAll K H xs ds := by
  cases h with
  | lst hs ha => exact ⟨_, _, rfl, hs, ha⟩
theorem dps_ints : ∀ {ns : List Int} {vs : List V}, DpAll K H vs (ns.map PyData.int) → vs = ns.map V.int
  | [], _, h => by cases h; rfl
  | n :: ns, _, h => by
    cases h with
    | cons h1 h2 => cases h1; rw [dps_ints h2]; rfl
theorem dps3 {a b c : PyData} {vs : List V} (h : DpAll K H vs [a, b, c]) : ∃ x y z, vs = [x, y, z] ∧ Dp K H x a ∧ Dp K H y b ∧ Dp K H z c := by
  cases h with
  | cons h1 h =>
    cases h with
    | cons h2 h =>
      cases h with
      | cons h3 h =>
        cases h
        exact ⟨_, _, _, rfl, h1, h2, h3⟩
theorem dps2 {a b : PyData} {vs : List V} (h : DpAll K H vs [a, b]) : ∃ x y, vs = [x, y] ∧ Dp K H x a ∧ Dp K H y b := by
  cases h with
  | cons h1 h =>
    cases h with
    | cons h2 h =>
      cases h
      exact ⟨_, _, rfl, h1, h2⟩
theorem ints_dps : ∀ (ns : List Int), DpAll K H (ns.map V.int) (ns.map PyData.int)
  | [] => .nil
  | n :: ns => .cons (.int n) (ints_dps ns)
end
/-- ** with a base of any size within the line -/
def CPowW (i j : Int) : Prop := 0 ≤ j ∧ j ≤ 3 ∧ i.natAbs < 2 ^ 1000000
section
variable {X : Cx}
theorem op_powW : OpR X (binaryOp .Pow) (rI CPowW fun i j => .int (i ^ j.toNat)) := opI fun i j _ _ _ _ _ hc q => by
  obtain ⟨h0, h3, hb⟩ := hc
  refine pow_int h0 ?_ q
  have b : Builtin.Int.intBits i ≤ i.natAbs.log2 + 1 := by
    unfold Builtin.Int.intBits
    split <;> omega
  have l : i.natAbs.log2 < 1000000 := PySem.Flt.log2_lt_of (by decide) hb
  have c : (Builtin.Int.intBits i : Int) ≤ 1000000 := by omega
  have c0 : (0 : Int) ≤ (Builtin.Int.intBits i : Int) := Int.natCast_nonneg _
  calc (Builtin.Int.intBits i : Int) * j ≤ 1000000 * 3 := Int.mul_le_mul c h3 h0 (by decide)
    _ ≤ 2 ^ 27 := by decide
end
end Fr

namespace Fr
open PySem PySem.Spec PyProof.Rows L2
theorem same_refl {H : Hp} : Same H H := fun _ _ h => h
theorem same_tr {A B C : Hp} (a : Same A B) (b : Same B C) : Same A C := fun x o h => b x o (a x o h)
theorem yat_same {xs : List V} {i : Nat} {H : Hp} {x : V} {H' : Hp} (y : YAt xs i H x H') : Same H H' := by
  obtain ⟨rfl, _⟩ := y
  exact same_refl
theorem ypair_same {xs ys : Nat → Option V} {i : Nat} {H : Hp} {x : V} {H' : Hp} (y : YPair xs ys i H x H') : Same H H' := by
  obtain ⟨T, _, _, _, n, rfl, _⟩ := y
  exact snew n
theorem free_of {H H' : Hp} {p : Addr} (e : Same H H') (h : H' p = none) : H p = none := Same.free e h
theorem get_range {n i : Nat} (h : i < n) : (List.range n)[i]? = some i := by simp [h]
/-- a comprehension whose elements are told by the turn -/
theorem lc_flat {J : It} {n : Nat} {G : Hp → Prop} {Y : Nat → Hp → V → Hp → Prop} (w : Walk J n G Y) {g : TG} {te : TE} {vs : List Nat} {σ : L2.St} {H1 : Hp} {D : Addr} {Qd : Hp → Prop} (f : Nat → V) (hn : n ≤ 1000000) (hD : H1 D = none) (hG : ∀ H, Same H1 H → G H)
    (hY : ∀ i H x H', Y i H x H' → Same H H')
    (hs : ∀ i x H H', i < n → Same H1 H → Y i H x H' → ∀ R : V → Hp → Prop, (∀ H4, Same H' H4 → R (f i) H4) → g x (wipe σ vs) H' fun σ2 H2 => wipe σ2 vs = wipe σ vs ∧ te σ2 H2 R)
    (hd : ∀ H, Same H1 H → H D = some (.lst ((List.range n).map f)) → Qd H) :
    ∃ W : Nat → Nat → Hp → Prop, (∃ m, W 0 m (upd H1 D (.lst []))) ∧ ∀ i m H, W i m H →
      (J.stop i H ∧ Qd H) ∨ (J.go i H ∧ ∃ Nx : Hp → Prop, (∀ H', Nx H' → ∃ m', m' < m ∧ W (i + 1) m' H') ∧ ∀ x H', J.yld i H x H' → g x (wipe σ vs) H' fun σ2 H2 => wipe σ2 vs = wipe σ vs ∧ tYes σ2 H2 fun b H3 =>
        if b = true then te σ2 H3 fun y H4 => ∃ acc, H4 D = some (.lst acc) ∧ acc.length < sizeLine ∧ Nx (upd H4 D (.lst (acc ++ [y]))) else Nx H3) := by
  refine lc_it w (fun i H => Same H1 H ∧ H D = some (.lst ((List.range i).map f))) ⟨snew hD, upd_same⟩ (fun i H _ p => hG H p.1) (fun i x H H' hi p y => ?_) fun H p => hd H p.1 p.2
  have sm := hY i H x H' y
  refine hs i x H H' hi p.1 y _ fun H4 s4 => ⟨_, s4 _ _ (sm _ _ p.2), ?_, ?_, ?_⟩
  · rw [List.length_map, List.length_range]
    exact Nat.lt_of_lt_of_le (by omega : i < 1000001) (by rw [sizeLine_eq]; decide)
  · exact smut (same_tr p.1 (same_tr sm s4)) hD
  · rw [upd_same, List.range_succ, List.map_append]
    rfl
/-- a property that may be read by its name -/
structure Prp (P : Program) (w : World) (K : PySem.W.Frag) (mg : Str → Option Value) (base : Heap) (k : Nat) (C : Addr) (f : Str) (sp : Sp) : Prop where
  ex : ∃ (p g : Addr) (fd : FuncData) (ps : List Str), Cls K C ∧ PropOf K C f p g ∧ FnOk P w K mg base CX0 k g fd ps sp ∧ Binds K fd ps []
section
variable {X : Cx}
theorem pe_pr {k j : Nat} {C : Addr} {f : Str} {sp : Sp} {e : Expr} {pos : Pos} {ta : TE} (he : PE X e ta) (c : Prp X.prog X.w X.K X.mg X.base k C f sp) (hr : Room j X.A) (hk : k + 1 ≤ j) (hab : attributeBase e f X.env (eval e X.env) = eval e X.env) :
    PE X (.Attribute e f pos) (tProp C sp [] E0 ta) := by
  obtain ⟨p, g, fd, ps, hc, hp, F, hb⟩ := c.ex
  exact pe_prop he hc hp F (hr.mono hk) hb .nil pass0 hab
theorem _root_.L2.Room.units1 {k : Nat} {A : Around} (r : Room k A) : A.units + 65 < cLine := by
  have := r.un
  omega
end
def rTupS (K : PySem.W.Frag) : List V → Hp → VK → Prop := fun xs H Q => ∃ p ys, xs = [.ref p] ∧ ((SqL K H p ys ∧ ∀ l, H l = none → Q (.ref l) (upd H l (.tup ys))) ∨ (SqT K H p ys ∧ Q (.ref p) H))
end Fr

namespace Fr
open PySem PySem.Spec PyProof.Rows L2
theorem vals_each1 {α : Type} : ∀ {bs : List (V × α)} {us : List Value}, Vals (bs.map Prod.fst) us → PySem.W.EachIs (fun (v : Value) (x : V × α) => RelV x.1 v) us bs
  | [], _, h => by cases h; exact .nil
  | b :: bs, _, h => by
    cases h with
    | cons h t => exact .cons h (vals_each1 t)
theorem each_vals1 {α : Type} : ∀ {bs : List (V × α)} {us : List Value}, PySem.W.EachIs (fun (v : Value) (x : V × α) => RelV x.1 v) us bs → Vals (bs.map Prod.fst) us
  | [], _, h => by cases h; exact .nil
  | b :: bs, _, h => by
    cases h with
    | cons h t => exact .cons h (each_vals1 t)
/-- one parameter, nothing captured -/
structure LamP (a : Str) (scope : Scope) : Prop where
  kind : scope.kind = .function
  co : scope.isCoroutine = false
  gen : scope.isGenerator = false
  loc : scope.names.lookup a = some .local
  noc : ∀ y ∈ scope.names, y.2 ≠ .cell
  nof : ∀ y ∈ scope.names, y.2 ≠ .free
section
variable {prog : Program} {w : World} {A : Around} {E : Value → Shared → Prop} {s : Shared}
theorem lam_key0 {a q : Str} {f c' t : Addr} {pm ctv : Value} {params : Arguments} {scope : Scope} {cl : List (Str × Addr)} {p1 p2 p3 : Pos} {kk : Nat} {x : Str} {u : Tok} {items : List Value} (L : LamP a scope) (ha : (a == ("__debug__" : Str)) = false)
    (ho : s.heap.get? f = some (PySem.W.kla_obj "<lambda>" q params (.Subscript (.Name a p1) (.Constant (.int 0) kk p2) p3) scope cl pm c' ctv)) (hcr : s.heap.CodeRec (.ref c') q) (hroom : A.depth < recursionLimit) (hlim : s.heap.NoLimit)
    (hbind : ∀ v, bindArgs (PySem.W.kla_fn "<lambda>" q params (.Subscript (.Name a p1) (.Constant (.int 0) kk p2) p3) scope cl pm (.ref c') ctv) ⟨[v], []⟩ = pure [(a, v)]) (ht : IsTup s.heap t (Value.str x u :: items).toArray) :
    wpAny (model prog w) A (call (.ref f) [.ref t]) (PySem.W.KeyPure (.str x) s) E s := by
  refine wpAny_call (PySem.W.kla_callFunE hroom ho rfl L.co L.gen rfl hcr ?_)
  rw [hbind]
  refine wpAny_pure (wpAny_newFunctionEnv (fun y hy => L.noc y hy) (fun y hy => ?_) (fun h₁ hns hsb => ⟨hlim.fresh _ hsb, ?_⟩) L.kind)
  · have e : y = (a, Value.ref t) := by simpa using hy
    rw [e]
    exact L.loc
  · have kp : ∀ b o, s.heap.get? b = some o → h₁.get? b = some o := fun b o e => hsb.extBut b o (Nat.ne_of_lt (Heap.lt_size e)) (Heap.get?_push_of_some _ e)
    refine PySem.W.kla_codeExpr (Subscript_ (wpAny_Name (wpAny_loadName_local (v := .ref t) L.kind L.loc hns ?_ ?_) ha))
    · show List.lookup a ([(a, Value.ref t)] : List (Str × Value)) = _
      simp [List.lookup]
    · refine wpAny_Constant_int ?_
      refine item_tupleL (j := 0) (x := .str x u) (l := Value.str x u :: items) ?_ (by decide) (by decide) ?_ rfl ?_
      · obtain ⟨o, h1, h2, n, h3⟩ := ht
        exact ⟨o, kp _ _ h1, h2, n, h3⟩
      · show (if (decide ((0 : Int) ≤ (if (0 : Int) < 0 then 0 + ((Value.str x u :: items).length : Int) else 0)) && decide ((if (0 : Int) < 0 then 0 + ((Value.str x u :: items).length : Int) else 0) < ((Value.str x u :: items).length : Int))) = true then some (if (0 : Int) < 0 then 0 + ((Value.str x u :: items).length : Int) else 0).toNat else none) = some 0
        rw [if_neg (by decide : ¬ (0 : Int) < 0)]
        have h : (0 : Int) < ((Value.str x u :: items).length : Int) := by
          rw [List.length_cons]
          omega
        rw [decide_eq_true (Int.le_refl 0), decide_eq_true h]
        rfl
      · exact ⟨h₁, _, rfl, kp, PySem.Reads.str x u⟩
end
/-- by the first text, from the least on -/
def leK {β : Type} (k : β → Str) : β → β → Bool := fun a b => decide ((k a).cps.toList ≤ (k b).cps.toList)
def oneV (R : VK) : List V → Hp → Prop
  | [v], H => R v H
  | _, _ => False
theorem oneV_of {R : VK} {vs : List V} {H : Hp} (h : oneV R vs H) : ∃ v, vs = [v] ∧ R v H := by
  match vs, h with
  | [v], h => exact ⟨v, rfl, h⟩
def tSortKey {α : Type} (kf : α → Str) (K : PySem.W.Frag) (T : List (Addr × Str)) (te : TE) : TE := fun σ H Q => te σ H fun v H1 => ∃ (a : Addr) (bs : List (V × α)), v = .ref a ∧ SqL K H1 a (bs.map Prod.fst) ∧ LamX.Tabs T H1 ∧
  (∀ y ∈ bs, ∃ t zs, y.1 = .ref t ∧ SqT K H1 t (.str (kf y.2) :: zs)) ∧ ∀ H2, LamX.ExtN H1 H2 → LamX.Tabs T H2 → ∀ p, H2 p = none → Q (.ref p) (upd H2 p (.lst ((bs.mergeSort (leK fun y => kf y.2)).map Prod.fst)))
theorem same_of_ext {B H1 H2 : Hp} (e : Same B H1) (n : ∀ b ps, B b ≠ some (.tbl ps)) (x : LamX.ExtN H1 H2) : Same B H2 := fun b o h => x b o (e b o h) fun ps z => n b ps (by rw [h, z])
theorem sqt_ext {K : PySem.W.Frag} {H1 H2 : Hp} {a : Addr} {xs : List V} (x : LamX.ExtN H1 H2) (h : SqT K H1 a xs) : SqT K H2 a xs := by
  rcases h with (h | ⟨o, h⟩) | h
  · exact .inl (.inl (x _ _ h fun ps z => by cases z))
  · exact .inl (.inr ⟨o, x _ _ h fun ps z => by cases z⟩)
  · exact .inr h
theorem sql_ext {K : PySem.W.Frag} {H1 H2 : Hp} {a : Addr} {xs : List V} (x : LamX.ExtN H1 H2) (h : SqL K H1 a xs) : SqL K H2 a xs := by
  rcases h with (h | ⟨o, h⟩) | h
  · exact .inl (.inl (x _ _ h fun ps z => by cases z))
  · exact .inl (.inr ⟨o, x _ _ h fun ps z => by cases z⟩)
  · exact .inr h
section
variable {X : Cx}
theorem pe_sortKey {α : Type} (kf : α → Str) {T : List (Addr × Str)} {c P : Addr} {k : Nat} {a : Str} {e : Expr} {params : Arguments} {scope : Scope} {p p1 p2 p3 lpos kpos pos : Pos} {kk : Nat} {te : TE} (hg : Gl X "sorted") (hm : X.mg "sorted" = none) (ha : PE X e te) (hr : Room (k + 1) X.A)
    (TB : LamX.TabB X.base X.mg c P) (hcode : X.env.code = .ref c) (hmT : (P, X.env.qual ++ "<lambda>") ∈ T) (hu : ∀ p ∈ T, p.1 = P → p.2 = X.env.qual ++ "<lambda>") (hdef : defaultsOf params X.env = ([], [])) (L : LamP a scope) (hda : (a == ("__debug__" : Str)) = false)
    (hbind : ∀ (q : Str) (cl : List (Str × Addr)) (pm cv ctv v : Value), bindArgs (PySem.W.kla_fn "<lambda>" q params (.Subscript (.Name a p1) (.Constant (.int 0) kk p2) p3) scope cl pm cv ctv) ⟨[v], []⟩ = pure [(a, v)])
    (he : backTo pos (starEach [e] X.env) = (false, eval e X.env) :: backTo pos (starEach [] X.env) := by rfl) (hpl : (backTo pos (starEach [e] X.env)).any Prod.fst = false := by rfl) (hes : starEach (e :: []) X.env = (false, eval e X.env) :: starEach [] X.env := by rfl) :
    PE X (.Call (.Name "sorted" p) [e] [⟨some "key", .Lambda params (.Subscript (.Name a p1) (.Constant (.int 0) kk p2) p3) scope lpos, kpos⟩] pos) (tSortKey kf X.K T te) := by
  refine ⟨fun pins s σ H Q I h => ?_⟩
  refine wpAny_Call_Name_kw (ld_blt I hg hm PyProof.Rows.boot_sorted ?_)
  refine PyProof.Rows.callWith_kw (thn ((pa_cons ha pa_nil hes).run pos pins s σ H (oneV fun v H1 => ∃ (a : Addr) (bs : List (V × α)), v = .ref a ∧ SqL X.K H1 a (bs.map Prod.fst) ∧ LamX.Tabs T H1 ∧
    (∀ y ∈ bs, ∃ t zs, y.1 = .ref t ∧ SqT X.K H1 t (.str (kf y.2) :: zs)) ∧ ∀ H2, LamX.ExtN H1 H2 → LamX.Tabs T H2 → ∀ p, H2 p = none → Q (.ref p) (upd H2 p (.lst ((bs.mergeSort (leK fun y => kf y.2)).map Prod.fst)))) I h) fun us s1 hh => ?_) he hpl (by rfl) (by rfl)
  · obtain ⟨vs, H1, I1, r1, hh⟩ := hh
    obtain ⟨v, rfl, hh⟩ := oneV_of hh
    obtain ⟨b, bs, rfl, hS, hT, hK, q⟩ := hh
    obtain ⟨u, rfl, hu1⟩ := r1.one
    obtain rfl : u = Value.ref b := hu1
    show wpAny _ _ (evalAll ((do let v ← eval (.Lambda params (.Subscript (.Name a p1) (.Constant (.int 0) kk p2) p3) scope lpos) X.env; standAt pos; pure v) :: [])) _ _ s1
    refine wpAny_evalAll_cons (wpAny_bind (LamX.lam_make2 I1 TB hcode hmT hu hT hdef (fun y hy e => absurd e (L.nof y hy)) fun f c' pm ctv H2 s2 I2 xN hT2 hf hfn hfr hco => wpAny_bind (wpAny_standAt (wpAny_pure (wpAny_evalAll_nil ?_)))))
    show wpAny _ _ (call (.builtin "sorted") [.ref b] [(Str.ofString "key", .ref f)]) _ _ s2
    have hS2 := sql_ext xN hS
    obtain ⟨its, rv, hl, hz⟩ := I2.list hS2
    obtain ⟨⟨oc, vsc, tc, hoc, hdc, hvc⟩, _, _⟩ := I2.hok c' _ hco
    have hcr : s2.heap.CodeRec (.ref c') (X.env.qual ++ "<lambda>") := ⟨c', oc, vsc, tc, rfl, hoc, hdc, hvc⟩
    refine PySem.W.sorted_key_data (β := V × α) (vs := its) (bs := bs) (R := fun v x => RelV x.1 v) (b := false) (fun y => PyData.str (kf y.2)) hl.isList (vals_each1 rv) ?_ ?_ ?_ ?_ (PyProof.Rows.ksk_s1 _ _) (fun _ => PyProof.Rows.ksk_l1 _ _) (fun x => PyProof.Rows.ksk_t1 f x) ?_ ?_
    · intro d hd d' hd'
      obtain ⟨y, _, rfl⟩ := List.mem_map.mp hd
      obtain ⟨y', _, rfl⟩ := List.mem_map.mp hd'
      rfl
    · refine Or.inr fun d hd => ?_
      obtain ⟨y, _, rfl⟩ := List.mem_map.mp hd
      constructor
      · intro z
        cases z
      · intro xs z
        cases z
    · rw [List.length_map] at hz
      exact hz
    · intro y hy
      have := hr.un
      show X.A.units + 2 + PyData.depth (.str (kf y.2)) < cLine
      have e : PyData.depth (.str (kf y.2)) ≤ 1 := by simp [PyData.depth]
      omega
    · intro v y hv hy h tk kp
      obtain ⟨t, zs, ey, ht⟩ := hK y hy
      rw [ey] at hv
      obtain rfl : v = Value.ref t := hv
      obtain ⟨jts, rj, hjt, _⟩ := I2.tuple (sqt_ext xN ht)
      cases rj with
      | @cons _ u0 _ js r0 rr =>
        obtain ⟨t0, rfl⟩ := r0
        obtain ⟨o, h1, h2, n, h3⟩ := hjt
        refine lam_key0 (s := { s2 with heap := h, toks := tk }) (A := X.A.in1.in1) (u := t0) (items := js) L hda (kp _ _ hf) ⟨c', oc, vsc, tc, rfl, kp _ _ hoc, hdc, hvc⟩ ?_ (I2.nolimit.keeps kp) (fun v => hbind _ _ _ _ _ v) ⟨o, kp _ _ h1, h2, n, h3⟩
        have := hr.dp
        show X.A.depth < recursionLimit
        omega
    · intro out cc h' tk kp fresh hD hlen' hE
      have hv := each_vals1 hE
      have hle : PySem.W.dataLe false (fun y : V × α => PyData.str (kf y.2)) = leK fun y => kf y.2 := PySem.W.dataLe_str _
      rw [hle] at hv
      have hl2 : ((bs.mergeSort (leK fun y => kf y.2)).map Prod.fst).length ≤ sizeLine := by
        rw [List.length_map, List.length_mergeSort]
        rw [List.length_map] at hz
        exact hz
      exact ⟨.ref _, upd H2 (s2.heap.objs.size + 1) (.lst ((bs.mergeSort (leK fun y => kf y.2)).map Prod.fst)), I2.laid (t' := tk) kp (Nat.le_succ _) ⟨hl2, out, cc, hv, hD⟩, rfl, q H2 xN hT2 _ (I2.hok.fresh (Nat.le_succ _))⟩
end
/-- a dict comprehension over a walk -/
theorem dc_it {J : It} {n : Nat} {G : Hp → Prop} {Y : Nat → Hp → V → Hp → Prop} (w : Walk J n G Y) {g : TG} {tt : TT} {tk tv : TE} {vs : List Nat} {σ : L2.St} {H1 : Hp} {D : Addr} {Qd : Hp → Prop} (Pv : Nat → Hp → Prop) (h0 : Pv 0 (upd H1 D (.dK []))) (hG : ∀ i H, i ≤ n → Pv i H → G H)
    (hs : ∀ i x H H', i < n → Pv i H → Y i H x H' → g x (wipe σ vs) H' fun σ2 H2 => wipe σ2 vs = wipe σ vs ∧ tt σ2 H2 fun b H3 =>
      if b = true then tk σ2 H3 fun y H4 => tv σ2 H4 fun z H5 => ∃ kvs k, y = kV k ∧ H5 D = some (.dK kvs) ∧ kvs.length < sizeLine ∧ Pv (i + 1) (upd H5 D (.dK (putK kvs k z))) else Pv (i + 1) H3) (hd : ∀ H, Pv n H → Qd H) :
    ∃ W : Nat → Nat → Hp → Prop, (∃ m, W 0 m (upd H1 D (.dK []))) ∧ ∀ i m H, W i m H →
      (J.stop i H ∧ Qd H) ∨ (J.go i H ∧ ∃ Nx : Hp → Prop, (∀ H', Nx H' → ∃ m', m' < m ∧ W (i + 1) m' H') ∧ ∀ x H', J.yld i H x H' → g x (wipe σ vs) H' fun σ2 H2 => wipe σ2 vs = wipe σ vs ∧ tt σ2 H2 fun b H3 =>
        if b = true then tk σ2 H3 fun y H4 => tv σ2 H4 fun z H5 => ∃ kvs k, y = kV k ∧ H5 D = some (.dK kvs) ∧ kvs.length < sizeLine ∧ Nx (upd H5 D (.dK (putK kvs k z))) else Nx H3) := by
  refine ⟨fun i m H => m = n - i ∧ i ≤ n ∧ Pv i H, ⟨n, by simp, Nat.zero_le _, h0⟩, ?_⟩
  rintro i m H ⟨rfl, hi, p⟩
  have q := hG i H hi p
  by_cases hlt : i < n
  · exact .inr ⟨w.goes i H hlt q, Pv (i + 1), fun H' p' => ⟨n - (i + 1), by omega, rfl, hlt, p'⟩, fun x H' y => hs i x H H' hlt p (w.yields i H x H' hlt q y)⟩
  · have e : i = n := by omega
    subst e
    exact .inl ⟨w.stops H q, hd H p⟩
theorem SD.ext {H H' : Hp} (x : LamX.ExtN H H') : SD H H' := fun b o h d => x b o h fun ps z => by
  rw [z] at d
  cases d
theorem tabs_upd {T : List (Addr × Str)} {H : Hp} {s : Addr} {u o : HO} (hT : LamX.Tabs T H) (h : H s = some u) (n1 : ∀ ps, u ≠ .tbl ps) (n2 : ∀ c q, u ≠ LamX.CodeO c q) : LamX.Tabs T (upd H s o) := by
  intro p hp
  obtain ⟨ps, h1, h2, h3⟩ := hT p hp
  refine ⟨ps, ?_, h2, fun pos cv hc => ?_⟩
  · rw [upd_ne fun z => by
      rw [z, h] at h1
      exact n1 _ (Option.some.inj h1)]
    exact h1
  · obtain ⟨c, e1, e2⟩ := h3 pos cv hc
    refine ⟨c, e1, ?_⟩
    rw [upd_ne fun z => by
      rw [z, h] at e2
      exact n2 _ _ (Option.some.inj e2)]
    exact e2
theorem tabs_ins {T : List (Addr × Str)} {H : Hp} {s C dx : Addr} {fs : List (Str × V)} {o : HO} (hT : LamX.Tabs T H) (h : H s = some (.ins C dx fs)) : LamX.Tabs T (upd H s o) := tabs_upd hT h (fun ps z => by cases z) (fun c q z => by unfold LamX.CodeO at z; cases z)
theorem tabs_lst {T : List (Addr × Str)} {H : Hp} {s : Addr} {xs : List V} {o : HO} (hT : LamX.Tabs T H) (h : H s = some (.lst xs)) : LamX.Tabs T (upd H s o) := tabs_upd hT h (fun ps z => by cases z) (fun c q z => by unfold LamX.CodeO at z; cases z)
end Fr

namespace Fr
open PySem PySem.Spec PyProof.Rows L2
section
variable {prog : Program} {w : World} {A : Around} {E : Value → Shared → Prop} {s : Shared}
theorem min_intTup {l : Addr} {xs : Array (Int × Tok)} {Q : Value → Shared → Prop} (hh : A.handled = none) (hl : s.heap.IsTuple l (intItems xs)) (hne : 0 < xs.size)
    (h : ∀ v h' tk, (intItems xs)[argBest (fun i j => decide (numAt xs i < numAt xs j)) (xs.size - 1)]? = some v → (∀ b o, s.heap.get? b = some o → h'.get? b = some o) → Q v { s with heap := h', toks := tk }) :
    wpAny (model prog w) A (call (.builtin "min") [.ref l]) Q E s := by
  refine call_min_walk (wpAny_pyIter_tuple hl ?_)
  obtain ⟨o, ho, hc, n, hd⟩ := hl
  have hlt : l < s.heap.objs.size := Heap.lt_size ho
  refine ⟨_, [_, l], [_], _, _, _, _, rfl, Walks.tuple (A := A.in1) hh _ l (Nat.ne_of_lt hlt) (intItems xs), ⟨⟨_, Heap.get?_push_size _ rfl, rfl, rfl⟩, ⟨o, Heap.get?_push_of_some _ ho, hc, n, hd⟩⟩, fun d hdm => ?_, by simpa [intItems] using hne, CmpOf.ints_lt (numAt xs) (fun _ _ => intItems_at), fun v h' tk hP hk => ?_⟩
  · show d < (s.heap.push _).objs.size
    rw [Heap.size_push]
    rcases List.mem_cons.mp hdm with rfl | hdm
    · exact Nat.lt_succ_self _
    · rcases List.mem_cons.mp hdm with rfl | hdm
      · exact Nat.lt_succ_of_lt hlt
      · cases hdm
  · refine h v h' tk (by simpa [intItems] using hP) fun d o e => hk d o (fun hm => ?_) (Heap.get?_push_of_some _ e)
    rcases List.mem_cons.mp hm with e1 | hm
    · have := Heap.lt_size e
      rw [e1] at this
      exact Nat.lt_irrefl _ this
    · cases hm
end
def rMinT (K : PySem.W.Frag) : List V → Hp → VK → Prop := fun vs H Q => ∃ (a : Addr) (ns : List Int), vs = [V.ref a] ∧ SqT K H a (ns.map V.int) ∧ 0 < ns.length ∧ ∀ m, m ∈ ns → (∀ y, y ∈ ns → m ≤ y) → Q (.int m) H
theorem cr_minT {X : Cx} (hc : X.calm = true) : CallR X (.builtin "min") (rMinT X.K) := by
  intro pins s σ H vs us Q I r h
  obtain ⟨a, ns, rfl, hs, hne, q⟩ := h
  obtain ⟨its, rv, hl, _⟩ := I.tuple hs
  rw [Vals.ref1 r]
  obtain ⟨xs, e⟩ := rv.ints.allInts.items
  have hn : numsOf (intItems xs).toList = ns := by rw [← e]; exact rv.ints.numsOf
  rw [nums_intItems] at hn
  subst hn
  rw [e] at hl
  have hsz : 0 < xs.size := by simpa using hne
  refine min_intTup (I.ok.hd hc) hl hsz fun v h' tk hv hk => ?_
  obtain ⟨t, rfl⟩ := intItems_at hv
  obtain ⟨h1, h2⟩ := argBest_lt (numAt xs) (xs.size - 1)
  refine ⟨.int _, H, I.kept hk, ⟨_, rfl⟩, q _ ?_ fun a ha => ?_⟩
  · rw [numAt_eq]; exact PySem.getD_mem (by rw [List.length_map, Array.length_toList]; omega)
  · obtain ⟨j, hj, rfl⟩ := mem_getD ha
    rw [List.length_map, Array.length_toList] at hj
    rw [← numAt_eq]; exact h2 j (by omega)
theorem sgrow {B H : Hp} {p : Addr} {o : HO} (e : Same B H) : Same (upd B p o) (upd H p o) := fun c u h => by
  by_cases hc : c = p
  · rw [hc, upd_same] at h ⊢
    exact h
  · rw [upd_ne hc] at h ⊢
    exact e c u h
/-- an object that the base does not know may change -/
theorem swrite {B H : Hp} {p : Addr} {o : HO} (e : Same B H) (n : B p = none) : Same B (upd H p o) := fun c u h => by
  rw [upd_ne (ne_of_none h n)]
  exact e c u h
theorem walk_zipT {K : PySem.W.Frag} {a b : Addr} {xs ys : List V} {n : Nat} (hn : n = min xs.length ys.length) : Walk (RZ.ItzT K a b) n (fun H => SqT K H a xs ∧ SqT K H b ys) (YPair (fun i => xs[i]?) (fun i => ys[i]?)) := by
  subst hn
  refine ⟨fun i _ hi q => ?_, fun _ q => ⟨xs, ys, q.1, q.2, by omega⟩, fun i H v H' _ q y => ?_⟩
  · have h1 : i < xs.length := by omega
    have h2 : i < ys.length := by omega
    exact ⟨xs, ys, xs[i], ys[i], q.1, q.2, by simp [h1], by simp [h2]⟩
  · obtain ⟨T, x, z, h1, h2, h3, h4, h5⟩ := y
    exact ⟨T, x, z, h1, h2, h3, h4 xs q.1, h5 ys q.2⟩
theorem range_map_get' {α : Type} (xs : List α) (f : Nat → α) (h : ∀ i x, xs[i]? = some x → f i = x) : (List.range xs.length).map f = xs := by
  refine List.ext_getElem? fun i => ?_
  by_cases hi : i < xs.length
  · rw [List.getElem?_map, get_range hi, List.getElem?_eq_getElem hi]
    exact congrArg some (h i _ (List.getElem?_eq_getElem hi))
  · rw [List.getElem?_eq_none (by simp; omega), List.getElem?_eq_none (by omega)]
/-- p - v -/
def minus (p v : List Int) : List Int := List.zipWith (fun a b => a - b) p v
theorem minus_at {p v : List Int} {i : Nat} {a b : Int} (h1 : p[i]? = some a) (h2 : v[i]? = some b) : (minus p v).getD i 0 = a - b := by
  unfold minus
  rw [List.getD_eq_getElem?_getD, List.getElem?_zipWith, h1, h2]
  rfl
theorem minus_range (p v : List Int) : (List.range (min p.length v.length)).map (fun i => V.int ((minus p v).getD i 0)) = (minus p v).map V.int := by
  have := range_map_get' ((minus p v).map V.int) (fun i => V.int ((minus p v).getD i 0)) (fun i b hb => by
    rw [List.getElem?_map] at hb
    obtain ⟨c, h1, h2⟩ := Option.map_eq_some_iff.mp hb
    rw [List.getD_eq_getElem?_getD, h1]
    exact h2)
  rw [List.length_map] at this
  unfold minus at this ⊢
  rw [List.length_zipWith] at this
  exact this
end Fr

namespace Fr
open PySem PySem.Spec PyProof.Rows L2
def topS (i : Nat) : Stmt := PySem.Challenge.pw_farreads_k07_ways_looked_at.main.body.getD i (.Pass ⟨0, 0, 0, 0⟩)
abbrev s_is_name : Stmt := topS 14
theorem sc_is_name : FnScope ["text", "letter"] ["text"] (defScope s_is_name) := ⟨rfl, rfl, rfl, by decide +kernel, rfl, by decide +kernel, by decide +kernel⟩
-- slots: 0 text, 1 letter
abbrev s_is_read : Stmt := topS 15
theorem sc_is_read : FnScope ["read", "dimensions", "table", "vector", "factor"] ["read", "dimensions"] (defScope s_is_read) := ⟨rfl, rfl, rfl, by decide +kernel, rfl, by decide +kernel, by decide +kernel⟩
-- slots: 0 read, 1 dimensions, 2 table, 3 vector, 4 factor
abbrev s_is_point : Stmt := topS 17
theorem sc_is_point : FnScope ["system", "point", "place"] ["system", "point"] (defScope s_is_point) := ⟨rfl, rfl, rfl, by decide +kernel, rfl, by decide +kernel, by decide +kernel⟩
-- slots: 0 system, 1 point, 2 place
abbrev s_System_dimensions : Stmt := inClass (topS 31) 3
theorem sc_System_dimensions : FnScope ["self"] ["self"] (defScope s_System_dimensions) := ⟨rfl, rfl, rfl, by decide +kernel, rfl, by decide +kernel, by decide +kernel⟩
-- slots: 0 self
abbrev s_System_modulus : Stmt := inClass (topS 31) 4
theorem sc_System_modulus : FnScope ["self"] ["self"] (defScope s_System_modulus) := ⟨rfl, rfl, rfl, by decide +kernel, rfl, by decide +kernel, by decide +kernel⟩
-- slots: 0 self
abbrev s_System_names : Stmt := inClass (topS 31) 5
theorem sc_System_names : FnScope ["self"] ["self"] (defScope s_System_names) := ⟨rfl, rfl, rfl, by decide +kernel, rfl, by decide +kernel, by decide +kernel⟩
-- slots: 0 self
abbrev s_check_table : Stmt := topS 21
theorem sc_check_table : FnScope ["system", "name"] ["system", "name"] (defScope s_check_table) := ⟨rfl, rfl, rfl, by decide +kernel, rfl, by decide +kernel, by decide +kernel⟩
-- slots: 0 system, 1 name
abbrev s_check_cell : Stmt := topS 22
theorem sc_check_cell : FnScope ["system", "cell", "name", "point"] ["system", "cell"] (defScope s_check_cell) := ⟨rfl, rfl, rfl, by decide +kernel, rfl, by decide +kernel, by decide +kernel⟩
-- slots: 0 system, 1 cell, 2 name, 3 point
abbrev s_System_reads : Stmt := inClass (topS 31) 7
theorem sc_System_reads : FnScope ["self", "name"] ["self", "name"] (defScope s_System_reads) := ⟨rfl, rfl, rfl, by decide +kernel, rfl, by decide +kernel, by decide +kernel⟩
-- slots: 0 self, 1 name
abbrev s_check_tables : Stmt := topS 19
theorem sc_check_tables : FnScope ["dimensions", "tables", "names", "table", "many", "row", "name", "_", "reads", "read"] ["dimensions", "tables"] (defScope s_check_tables) := ⟨rfl, rfl, rfl, by decide +kernel, rfl, by decide +kernel, by decide +kernel⟩
-- slots: 0 dimensions, 1 tables, 2 names, 3 table, 4 many, 5 row, 6 name, 7 _, 8 reads, 9 read
abbrev s_check_tables_that_are_read : Stmt := topS 20
theorem sc_check_tables_that_are_read : FnScope ["tables", "names", "table", "row", "read"] ["tables"] (defScope s_check_tables_that_are_read) := ⟨rfl, rfl, rfl, by decide +kernel, rfl, by decide +kernel, by decide +kernel⟩
-- slots: 0 tables, 1 names, 2 table, 3 row, 4 read
abbrev s_check_system : Stmt := topS 18
theorem sc_check_system : FnScope ["dimensions", "tables", "modulus"] ["dimensions", "tables", "modulus"] (defScope s_check_system) := ⟨rfl, rfl, rfl, by decide +kernel, rfl, by decide +kernel, by decide +kernel⟩
-- slots: 0 dimensions, 1 tables, 2 modulus
abbrev s_System_init : Stmt := inClass (topS 31) 0
theorem sc_System_init : FnScope ["self", "dimensions", "tables", "modulus", "rows", "name", "constant", "reads"] ["self", "dimensions", "tables", "modulus"] (defScope s_System_init) := ⟨rfl, rfl, rfl, by decide +kernel, rfl, by decide +kernel, by decide +kernel⟩
-- slots: 0 self, 1 dimensions, 2 tables, 3 modulus, 4 rows, 5 name, 6 constant, 7 reads
structure Rd1 where
  t : Str
  v : List Int
  f : Int
structure Tb where
  n : Str
  c : Int
  rs : List Rd1
def Rd1.d (r : Rd1) : PyData := .tuple [.str r.t, .tuple (r.v.map .int), .int r.f]
/-- as a caller hands it in: the reads in a list -/
def Tb.d (t : Tb) : PyData := .tuple [.str t.n, .int t.c, .list (t.rs.map Rd1.d)]
/-- as a system keeps it -/
def Tb.k (t : Tb) : PyData := .tuple [.int t.c, .tuple (t.rs.map Rd1.d)]
def flds (d m : Int) (t : Addr) : List (Str × V) := putF "_tables" (.ref t) (putF "_modulus" (.int m) (putF "_dimensions" (.int d) []))
theorem nDM : ¬ (("_dimensions" : Str) = "_modulus") := by decide +kernel
theorem nDT : ¬ (("_dimensions" : Str) = "_tables") := by decide +kernel
theorem nMT : ¬ (("_modulus" : Str) = "_tables") := by decide +kernel
theorem flds_d (d m : Int) (t : Addr) : (flds d m t).lookup ("_dimensions" : Str) = some (.int d) := by
  unfold flds
  rw [lookup_putF, if_neg nDT, lookup_putF, if_neg nDM, lookup_putF, if_pos rfl]
theorem flds_m (d m : Int) (t : Addr) : (flds d m t).lookup ("_modulus" : Str) = some (.int m) := by
  unfold flds
  rw [lookup_putF, if_neg nMT, lookup_putF, if_pos rfl]
theorem flds_t (d m : Int) (t : Addr) : (flds d m t).lookup ("_tables" : Str) = some (.ref t) := by
  unfold flds
  rw [lookup_putF, if_pos rfl]
theorem flds_no (d m : Int) (t : Addr) {x : Str} (h1 : ¬ x = "_dimensions") (h2 : ¬ x = "_modulus") (h3 : ¬ x = "_tables") : (flds d m t).lookup x = none := by
  unfold flds
  rw [lookup_putF, if_neg h3, lookup_putF, if_neg h2, lookup_putF, if_neg h1]
  rfl
def KvAt (K : PySem.W.Frag) (H : Hp) (kvs : List (Key × V)) (ts : List Tb) : Prop := Paired (fun (kv : Key × V) (t : Tb) => kv.1 = Sum.inr t.n ∧ Dp K H kv.2 t.k) kvs ts
theorem KvAt.mono {K : PySem.W.Frag} {H H' : Hp} (e : Same H H') : ∀ {kvs : List (Key × V)} {ts : List Tb}, KvAt K H kvs ts → KvAt K H' kvs ts
  | [], _, h => by cases h; exact .nil
  | kv :: kvs, _, h => by
    cases h with
    | cons h1 h2 => exact .cons ⟨h1.1, dpm e _ _ h1.2⟩ (KvAt.mono e h2)
theorem KvAt.monoD {K : PySem.W.Frag} {H H' : Hp} (e : SD H H') : ∀ {kvs : List (Key × V)} {ts : List Tb}, KvAt K H kvs ts → KvAt K H' kvs ts
  | [], _, h => by cases h; exact .nil
  | kv :: kvs, _, h => by
    cases h with
    | cons h1 h2 => exact .cons ⟨h1.1, dpd e _ _ h1.2⟩ (KvAt.monoD e h2)
theorem KvAt.app {K : PySem.W.Frag} {H : Hp} : ∀ {kvs ls : List (Key × V)} {ts us : List Tb}, KvAt K H kvs ts → KvAt K H ls us → KvAt K H (kvs ++ ls) (ts ++ us)
  | [], _, _, _, h, k => by cases h; exact k
  | kv :: kvs, _, _, _, h, k => by
    cases h with
    | cons h1 h2 => exact .cons h1 (KvAt.app h2 k)
theorem KvAt.noVal {K : PySem.W.Frag} {H : Hp} {x : Str} : ∀ {kvs : List (Key × V)} {ts : List Tb}, KvAt K H kvs ts → x ∉ ts.map (·.n) → valV kvs (Sum.inr x) = none
  | [], _, h, e => by cases h; rfl
  | (k, v) :: kvs, _, h, e => by
    cases h with
    | @cons _ t' _ ts' h1 h2 =>
      have h1' : k = Sum.inr t'.n := h1.1
      have hx : ¬ t'.n = x := fun z => e (by rw [← z]; exact List.mem_cons_self)
      have e2 := KvAt.noVal (x := x) h2 fun z => e (List.mem_cons_of_mem _ z)
      unfold valV at e2 ⊢
      rw [List.find?_cons_of_neg (by simp [h1', hx])]
      exact e2
theorem KvAt.len {K : PySem.W.Frag} {H : Hp} {kvs : List (Key × V)} {ts : List Tb} (h : KvAt K H kvs ts) : kvs.length = ts.length := Paired.length h
theorem KvAt.keys {K : PySem.W.Frag} {H : Hp} : ∀ {kvs : List (Key × V)} {ts : List Tb}, KvAt K H kvs ts → kvs.map (fun kv => kV kv.1) = ts.map fun t => V.str t.n
  | [], _, h => by cases h; rfl
  | kv :: kvs, _, h => by
    cases h with
    | cons h1 h2 =>
      rw [List.map_cons, List.map_cons, KvAt.keys h2, h1.1]
      rfl
theorem KvAt.get {K : PySem.W.Frag} {H : Hp} {x : Str} : ∀ {kvs : List (Key × V)} {ts : List Tb}, KvAt K H kvs ts → ∀ {t : Tb}, ts.find? (fun t => decide (t.n = x)) = some t → ∃ v, valV kvs (Sum.inr x) = some v ∧ Dp K H v t.k
  | [], _, h, t, e => by cases h; cases e
  | (k, v) :: kvs, _, h, t, e => by
    cases h with
    | @cons _ t' _ ts' h1 h2 =>
      obtain ⟨h1, h3⟩ := h1
      have h1 : k = Sum.inr t'.n := h1
      by_cases hx : t'.n = x
      · rw [List.find?_cons_of_pos (by simpa using hx)] at e
        cases e
        refine ⟨v, ?_, h3⟩
        unfold valV
        rw [List.find?_cons_of_pos (by simp [h1, hx])]
        rfl
      · rw [List.find?_cons_of_neg (by simpa using hx)] at e
        obtain ⟨v', e1, e2⟩ := KvAt.get h2 e
        refine ⟨v', ?_, e2⟩
        unfold valV at e1 ⊢
        rw [List.find?_cons_of_neg (by simp [h1, hx])]
        exact e1
structure SysAt (K : PySem.W.Frag) (C : Addr) (H : Hp) (s : Addr) (d m : Int) (ts : List Tb) : Prop where
  ob : ∃ (dx t : Addr) (kvs : List (Key × V)), H s = some (.ins C dx (flds d m t)) ∧ H t = some (.dK kvs) ∧ KvAt K H kvs ts
theorem SysAt.mono {K : PySem.W.Frag} {C : Addr} {H H' : Hp} {s : Addr} {d m : Int} {ts : List Tb} (e : Same H H') (h : SysAt K C H s d m ts) : SysAt K C H' s d m ts := by
  obtain ⟨dx, t, kvs, h1, h2, h3⟩ := h.ob
  exact ⟨dx, t, kvs, e _ _ h1, e _ _ h2, h3.mono e⟩
structure TxtC (K : PySem.W.Frag) (mg : Str → Option Value) (C : Addr) : Prop where
  cl : Cls K C
  nD : NoAttr K C "_dimensions"
  nM : NoAttr K C "_modulus"
  nT : NoAttr K C "_tables"
  g_System : mg "System" = some (.ref C)
def okSign (c : Nat) : Bool := !decide ([c] < [97]) && !decide ([122] < [c])
def isName (x : Str) : Bool := decide (1 ≤ (x.length : Int)) && decide ((x.length : Int) ≤ 8) && x.cps.toList.all okSign
structure Txt (mg : Str → Option Value) : Prop where
  b_len : mg "len" = none
  b_all : mg "all" = none
  b_min : mg "min" = none
  b_abs : mg "abs" = none
  b_int : mg "int" = none
  b_list : mg "list" = none
  b_tuple : mg "tuple" = none
  b_range : mg "range" = none
  b_zip : mg "zip" = none
  b_enumerate : mg "enumerate" = none
  b_sorted : mg "sorted" = none
  g_MOST_DIMENSIONS : ∃ u, mg "MOST_DIMENSIONS" = some u ∧ RelV (.int 3) u
  g_MOST_TABLES : ∃ u, mg "MOST_TABLES" = some u ∧ RelV (.int 6) u
  g_MOST_READS : ∃ u, mg "MOST_READS" = some u ∧ RelV (.int 12) u
  g_MOST_LETTERS : ∃ u, mg "MOST_LETTERS" = some u ∧ RelV (.int 8) u
theorem range_map_get {α : Type} (xs : List α) (f : Nat → α) (h : ∀ i x, xs[i]? = some x → f i = x) : (List.range xs.length).map f = xs := by
  refine List.ext_getElem? fun i => ?_
  by_cases hi : i < xs.length
  · rw [List.getElem?_map, get_range hi, List.getElem?_eq_getElem hi]
    exact congrArg some (h i _ (List.getElem?_eq_getElem hi))
  · rw [List.getElem?_eq_none (by simp; omega), List.getElem?_eq_none (by omega)]
section
variable {P : Program} {w : World} {K : PySem.W.Frag} {mg : Str → Option Value} {base : Heap}
def spIsName : Sp := fun vs H Q _ => ∃ x : Str, vs = [.str x] ∧ x.length ≤ 100000 ∧ ∀ H', Same H H' → Q (.bl (isName x)) H'
theorem ok_is_name {f : Addr} {fd : FuncData} (F : Fun K "is_name" "is_name" s_is_name f fd) (T : Txt mg) : FnOk P w K mg base CX0 1 f fd ["text"] spIsName := by
  refine F.ok sc_is_name (fun vs H Q E h => ?_) (fun cdv A outer s H vs Q E hr h => ?_)
  · obtain ⟨x, rfl, _⟩ := h
    rfl
  · obtain ⟨x, rfl, hx, q⟩ := h
    refine ⟨_, (pss_one (ps_ret (pe_and (pe_chain op_le op_le pe_int (pe_callB call_len_str (by rfl) T.b_len PySem.boot_len (pa_cons (pv 0) pa_nil)) (C8.pe_gc (by rfl) T.g_MOST_LETTERS)) (pe_one (pe_callB (cr_all rfl) (by rfl) T.b_all (by decide +kernel) (pa_cons (pe_lc (own := [("letter", 1)]) (g := gName 1) (tt := tYes) (by rfl) sc_is_name.nd (pi_str (pv 0)) (blkOk_by (N := ["text", "letter"]) (sc := defScope s_is_name) (by decide +kernel)) (fun _ _ _ _ _ => (pg_name (i := 1) sc_is_name.nd rfl (by first | exact Or.inl rfl | exact Or.inr rfl))) (fun _ _ _ _ _ => pts_nil) (fun _ _ _ _ _ => (pe_chain op_le_str op_le_str pe_str (pv 1) pe_str))) pa_nil)))))), ?_⟩
    have hs : x.length ≤ sizeLine := Nat.le_trans hx (by rw [sizeLine_eq]; decide)
    refine ⟨.str x, rfl, x, rfl, hs, 1, x.length, rfl, rfl, decide (1 ≤ (x.length : Int)), rfl, ?_⟩
    unfold isName at q
    refine ite2 (fun h1 => ?_) (fun h1 => ?_)
    · refine ⟨x.length, 8, rfl, rfl, decide ((x.length : Int) ≤ 8), rfl, ?_⟩
      rw [h1] at q
      refine ite2 (fun h2 => ?_) (fun h2 => ?_)
      · rw [h2] at q
        refine ⟨.str x, rfl, x, rfl, fun D hD => lc_flat walk_str (fun i => .bl (okSign (x.cps.toList.getD i 0))) ?_ hD (fun _ _ => True.intro) (fun i H x H' y => by obtain ⟨rfl, _⟩ := y; exact same_refl) ?_ ?_⟩
        · show x.length ≤ _
          omega
        · rintro i v H1 H2 hi sm ⟨rfl, c, hc, rfl⟩ R hR
          have ec : x.cps.toList.getD i 0 = c := by
            rw [List.getD_eq_getElem?_getD, Array.getElem?_toList, hc]
            rfl
          refine ⟨rfl, .str ⟨#[c]⟩, rfl, ⟨#[97]⟩, ⟨#[c]⟩, rfl, rfl, _, rfl, ?_⟩
          have e2 : okSign (x.cps.toList.getD i 0) = (!decide ([c] < [97]) && !decide ([122] < [c])) := by rw [ec]; rfl
          refine ite2 (fun h3 => ?_) (fun h3 => ?_)
          · refine ⟨⟨#[c]⟩, ⟨#[122]⟩, rfl, rfl, ?_⟩
            have r := hR H2 same_refl
            rw [e2] at r
            have h3' : (!decide ([c] < [97])) = true := h3
            rw [h3'] at r
            exact r
          · have r := hR H2 same_refl
            rw [e2] at r
            have h3' : (!decide ([c] < [97])) = false := by simpa using h3
            rw [h3'] at r
            exact r
        · intro H1 sm hD1
          refine ⟨D, (List.range x.cps.size).map fun i => okSign (x.cps.toList.getD i 0), rfl, Or.inl (Or.inl ?_), ?_⟩
          · rw [hD1, List.map_map]
            rfl
          · have e : (List.range x.cps.size).map (fun i => okSign (x.cps.toList.getD i 0)) = x.cps.toList.map okSign := by
              have := range_map_get (x.cps.toList.map okSign) (fun i => okSign (x.cps.toList.getD i 0)) (fun i b hb => by
                rw [List.getElem?_map] at hb
                obtain ⟨c, h1, h2⟩ := Option.map_eq_some_iff.mp hb
                rw [List.getD_eq_getElem?_getD, h1]
                exact h2)
              rw [List.length_map] at this
              exact this
            rw [e, List.all_map]
            exact q H1 sm
      · have h2' : decide ((x.length : Int) ≤ 8) = false := by simpa using h2
        rw [h2'] at q
        exact q H same_refl
    · have h1' : decide (1 ≤ (x.length : Int)) = false := by simpa using h1
      rw [h1'] at q
      refine ⟨false, rfl, ?_⟩
      exact q H same_refl
def isRead (d : Int) (r : Rd1) : Bool := isName r.t && (decide ((r.v.length : Int) = d) && !decide (r.f = 0))
def spIsRead (K : PySem.W.Frag) : Sp := fun vs H Q _ => ∃ (v : V) (r : Rd1) (d : Int), vs = [v, .int d] ∧ Dp K H v r.d ∧ r.t.length ≤ 100000 ∧ ∀ H', Same H H' → Q (.bl (isRead d r)) H'
theorem ok_is_read {f : Addr} {fd : FuncData} (F : Fun K "is_read" "is_read" s_is_read f fd) (T : Txt mg) (c_is_name : C8.Cal P w K mg base 1 "is_name" spIsName []) : FnOk P w K mg base CX0 2 f fd ["read", "dimensions"] (spIsRead K) := by
  refine F.ok sc_is_read (fun vs H Q E h => ?_) (fun cdv A outer s H vs Q E hr h => ?_)
  · obtain ⟨v, r, d, rfl, _⟩ := h
    rfl
  · obtain ⟨v, r, d, rfl, hv, hz, q⟩ := h
    refine ⟨_, (pss_cons (ps_asg (pv 0) (pg_tup rfl (pgs_cons (pg_name (i := 2) sc_is_read.nd rfl (by first | exact Or.inl rfl | exact Or.inr rfl)) (pgs_cons (pg_name (i := 3) sc_is_read.nd rfl (by first | exact Or.inl rfl | exact Or.inr rfl)) (pgs_cons (pg_name (i := 4) sc_is_read.nd rfl (by first | exact Or.inl rfl | exact Or.inr rfl)) pgs_nil)))))
  (pss_one (ps_ret (pe_and (C8.pe_c c_is_name hr (by decide) (by rfl) (pa_cons (pv 2) pa_nil)) (pe_and (pe_cmpR op_eq (pe_callB call_len_seq (by rfl) T.b_len PySem.boot_len (pa_cons (pv 3) pa_nil)) (pv 1) (nomark _)) (pe_one (pe_cmpR op_ne (pv 4) pe_int (nomark _)))))))), ?_⟩
    obtain ⟨a, xs, rfl, ht, hd⟩ := dtup hv
    obtain ⟨x1, x2, x3, rfl, h1, h2, h3⟩ := dps3 hd
    obtain rfl := dstr h1
    obtain rfl := dint h3
    obtain ⟨b, ys, rfl, ht2, hd2⟩ := dtup h2
    have hl2 := dps_len hd2
    refine ⟨_, rfl, a, _, rfl, ht, rfl, _, _, rfl, _, _, rfl, _, _, rfl, rfl, ?_⟩
    unfold isRead at q
    refine ⟨.str r.t, rfl, r.t, rfl, hz, fun H1 sm => ⟨_, rfl, ?_⟩⟩
    cases hn : isName r.t with
    | false =>
      refine iteF ?_
      have z := q H1 sm
      rw [hn] at z
      exact z
    | true =>
      refine iteT ?_
      refine ⟨_, rfl, b, ys, rfl, Or.inr (sqt sm ht2), _, rfl, rfl, _, rfl, ?_⟩
      have z := q H1 sm
      rw [hn] at z
      have e : decide (V.int (ys.length : Int) = V.int d) = decide ((r.v.length : Int) = d) := by
        rw [hl2, List.length_map]
        exact decide_eq_decide.mpr ⟨fun h => V.int.inj h, fun h => congrArg V.int h⟩
      rw [e]
      cases hq : decide ((r.v.length : Int) = d) with
      | false =>
        refine iteF ?_
        rw [hq] at z
        exact z
      | true =>
        refine iteT ?_
        rw [hq] at z
        refine ⟨_, rfl, rfl, ?_⟩
        have e3 : decide (V.int r.f = V.int 0) = decide (r.f = 0) := decide_eq_decide.mpr ⟨fun h => V.int.inj h, fun h => congrArg V.int h⟩
        rw [e3]
        exact z
def spDims (K : PySem.W.Frag) (C : Addr) : Sp := fun vs H Q _ => ∃ (s : Addr) (d m : Int) (ts : List Tb), vs = [.ref s] ∧ SysAt K C H s d m ts ∧ Q (.int d) H
theorem ok_dims {f C : Addr} {fd : FuncData} (F : Fun K "dimensions" "System.dimensions" s_System_dimensions f fd) (TC : TxtC K mg C) : FnOk P w K mg base CX0 1 f fd ["self"] (spDims K C) := by
  refine F.ok sc_System_dimensions (fun vs H Q E h => ?_) (fun cdv A outer s H vs Q E hr h => ?_)
  · obtain ⟨s, d, m, ts, rfl, _⟩ := h
    rfl
  · obtain ⟨s, d, m, ts, rfl, S, q⟩ := h
    refine ⟨_, (pss_one (ps_ret (pe_fld (pv 0) rfl))), ?_⟩
    obtain ⟨dx, t, kvs, h1, h2, h3⟩ := S.ob
    exact ⟨_, rfl, s, C, dx, _, _, rfl, h1, TC.cl, TC.nD, flds_d _ _ _, q⟩
def spMod (K : PySem.W.Frag) (C : Addr) : Sp := fun vs H Q _ => ∃ (s : Addr) (d m : Int) (ts : List Tb), vs = [.ref s] ∧ SysAt K C H s d m ts ∧ Q (.int m) H
theorem ok_mod {f C : Addr} {fd : FuncData} (F : Fun K "modulus" "System.modulus" s_System_modulus f fd) (TC : TxtC K mg C) : FnOk P w K mg base CX0 1 f fd ["self"] (spMod K C) := by
  refine F.ok sc_System_modulus (fun vs H Q E h => ?_) (fun cdv A outer s H vs Q E hr h => ?_)
  · obtain ⟨s, d, m, ts, rfl, _⟩ := h
    rfl
  · obtain ⟨s, d, m, ts, rfl, S, q⟩ := h
    refine ⟨_, (pss_one (ps_ret (pe_fld (pv 0) rfl))), ?_⟩
    obtain ⟨dx, t, kvs, h1, h2, h3⟩ := S.ob
    exact ⟨_, rfl, s, C, dx, _, _, rfl, h1, TC.cl, TC.nM, flds_m _ _ _, q⟩
def spNames (K : PySem.W.Frag) (C : Addr) : Sp := fun vs H Q _ => ∃ (s : Addr) (d m : Int) (ts : List Tb), vs = [.ref s] ∧ SysAt K C H s d m ts ∧ ∀ p H', H p = none → Same H H' → H' p = some (.lst (ts.map fun t => V.str t.n)) → Q (.ref p) H'
theorem ok_names {f C : Addr} {fd : FuncData} (F : Fun K "names" "System.names" s_System_names f fd) (T : Txt mg) (TC : TxtC K mg C) : FnOk P w K mg base CX0 1 f fd ["self"] (spNames K C) := by
  refine F.ok sc_System_names (fun vs H Q E h => ?_) (fun cdv A outer s H vs Q E hr h => ?_)
  · obtain ⟨s, d, m, ts, rfl, _⟩ := h
    rfl
  · obtain ⟨s, d, m, ts, rfl, S, q⟩ := h
    refine ⟨_, (pss_one (ps_ret (pe_callTy (call_listD rfl) (by rfl) T.b_list (by decide +kernel) (pa_cons (pe_fld (pv 0) rfl) pa_nil)))), ?_⟩
    obtain ⟨dx, t, kvs, h1, h2, h3⟩ := S.ob
    refine ⟨_, rfl, s, C, dx, _, _, rfl, h1, TC.cl, TC.nT, flds_t _ _ _, t, kvs, rfl, Or.inl h2, fun p hp => ?_⟩
    refine q p _ hp (snew hp) ?_
    rw [upd_same, h3.keys]
def okPoint (d : Int) (p : List Int) : Bool := decide ((p.length : Int) = d) && p.all fun i => decide (0 ≤ i)
def spIsPoint (K : PySem.W.Frag) (C : Addr) : Sp := fun vs H Q _ => ∃ (s : Addr) (d m : Int) (ts : List Tb) (v : V) (p : List Int), vs = [.ref s, v] ∧ SysAt K C H s d m ts ∧ Dp K H v (.tuple (p.map .int)) ∧ p.length ≤ 100000 ∧ ∀ H', Same H H' → Q (.bl (okPoint d p)) H'
theorem ok_is_point {f C : Addr} {fd : FuncData} (F : Fun K "is_point" "is_point" s_is_point f fd) (T : Txt mg) (p_dimensions : Prp P w K mg base 1 C "dimensions" (spDims K C)) : FnOk P w K mg base CX0 3 f fd ["system", "point"] (spIsPoint K C) := by
  refine F.ok sc_is_point (fun vs H Q E h => ?_) (fun cdv A outer s H vs Q E hr h => ?_)
  · obtain ⟨s, d, m, ts, v, p, rfl, _⟩ := h
    rfl
  · obtain ⟨s, d, m, ts, v, p, rfl, S, hv, hz, q⟩ := h
    refine ⟨_, (pss_one (ps_ret (pe_and (pe_cmpR op_eq (pe_callB call_len_seq (by rfl) T.b_len PySem.boot_len (pa_cons (pv 1) pa_nil)) (pe_pr (pv 0) p_dimensions hr (by decide) rfl) (nomark _)) (pe_one (pe_callB (cr_all rfl) (by rfl) T.b_all (by decide +kernel) (pa_cons (pe_lc (own := [("place", 2)]) (g := gName 2) (tt := tYes) (by rfl) sc_is_point.nd (pi_tup (pv 1)) (blkOk_by (N := ["system", "point", "place"]) (sc := defScope s_is_point) (by decide +kernel)) (fun _ _ _ _ _ => (pg_name (i := 2) sc_is_point.nd rfl (by first | exact Or.inl rfl | exact Or.inr rfl))) (fun _ _ _ _ _ => pts_nil) (fun _ _ _ _ _ => (pe_cmpR op_ge (pv 2) pe_int (nomark _)))) pa_nil)))))), ?_⟩
    obtain ⟨a, xs, rfl, ht, hd⟩ := dtup hv
    obtain rfl := dps_ints hd
    obtain ⟨dx, t, kvs, h1, h2, h3⟩ := S.ob
    refine ⟨_, rfl, a, _, rfl, Or.inr ht, _, rfl, s, dx, _, rfl, h1, s, d, m, ts, rfl, S, rfl, _, rfl, ?_⟩
    have e : decide (V.int ((p.map V.int).length : Int) = V.int d) = decide ((p.length : Int) = d) := by
      rw [List.length_map]
      exact decide_eq_decide.mpr ⟨fun h => V.int.inj h, fun h => congrArg V.int h⟩
    rw [e]
    unfold okPoint at q
    cases hq : decide ((p.length : Int) = d) with
    | false =>
      refine iteF ?_
      rw [hq] at q
      exact q H same_refl
    | true =>
      refine iteT ?_
      rw [hq] at q
      refine ⟨_, rfl, a, rfl, ⟨_, ht⟩, fun D hD => lc_flat (walk_tup (K := K) (a := a) (xs := p.map V.int)) (fun i => .bl (decide (0 ≤ p.getD i 0))) ?_ hD (fun H' sm => sqt sm ht) (fun i H x H' y => yat_same y) ?_ ?_⟩
      · rw [List.length_map]
        omega
      · rintro i v H1 H2 hi sm ⟨rfl, hx⟩ R hR
        rw [List.getElem?_map] at hx
        obtain ⟨j, hj, rfl⟩ := Option.map_eq_some_iff.mp hx
        have ej : p.getD i 0 = j := by
          rw [List.getD_eq_getElem?_getD, hj]
          rfl
        refine ⟨rfl, _, rfl, j, 0, rfl, rfl, ?_⟩
        have r := hR H2 same_refl
        rw [ej] at r
        exact r
      · intro H1 sm hD1
        refine ⟨D, (List.range (p.map V.int).length).map fun i => decide (0 ≤ p.getD i 0), rfl, Or.inl (Or.inl ?_), ?_⟩
        · rw [hD1, List.map_map]
          rfl
        · have e : (List.range (p.map V.int).length).map (fun i => decide (0 ≤ p.getD i 0)) = p.map fun i => decide (0 ≤ i) := by
            have := range_map_get (p.map fun i => decide (0 ≤ i)) (fun i => decide (0 ≤ p.getD i 0)) (fun i b hb => by
              rw [List.getElem?_map] at hb
              obtain ⟨c, h1, h2⟩ := Option.map_eq_some_iff.mp hb
              rw [List.getD_eq_getElem?_getD, h1]
              exact h2)
            rw [List.length_map] at this
            rw [List.length_map]
            exact this
          rw [e, List.all_map]
          exact q H1 sm
/-- the name is one of the system's -/
def spCheckTable (K : PySem.W.Frag) (C : Addr) : Sp := fun vs H Q _ => ∃ (s : Addr) (d m : Int) (ts : List Tb) (x : Str), vs = [.ref s, .str x] ∧ SysAt K C H s d m ts ∧ x ∈ ts.map (·.n) ∧ ∀ H', Same H H' → Q .non H'
theorem inV_str {x : Str} : ∀ {l : List Str}, x ∈ l → inV (.str x) (l.map V.str) = true := by
  intro l h
  unfold inV
  rw [List.any_map, List.any_eq_true]
  refine ⟨x, h, ?_⟩
  first
    | rfl
    | simp [eqV]
theorem flat_strs (l : List Str) : (l.map V.str).all flatV = true := by
  rw [List.all_map, List.all_eq_true]
  intro x _
  rfl
theorem ok_check_table {f C : Addr} {fd : FuncData} (F : Fun K "check_table" "check_table" s_check_table f fd) (T : Txt mg) (p_names : Prp P w K mg base 1 C "names" (spNames K C)) : FnOk P w K mg base CX0 3 f fd ["system", "name"] (spCheckTable K C) := by
  refine F.ok sc_check_table (fun vs H Q E h => ?_) (fun cdv A outer s H vs Q E hr h => ?_)
  · obtain ⟨s, d, m, ts, x, rfl, _⟩ := h
    rfl
  · obtain ⟨s, d, m, ts, x, rfl, S, hx, q⟩ := h
    refine ⟨_, (pss_one (ps_if (pt_cmpR op_notIn_seq (pv 1) (pe_pr (pv 0) p_names hr (by decide) rfl) (by rfl))
    (pss_one ps_never)
    pss_nil)), ?_⟩
    obtain ⟨dx, t, kvs, h1, h2, h3⟩ := S.ob
    refine ⟨_, rfl, _, rfl, s, dx, _, rfl, h1, s, d, m, ts, rfl, S, fun p H' hp sm hl => ?_⟩
    have e : (ts.map fun t => V.str t.n) = (ts.map (·.n)).map V.str := by
      rw [List.map_map]
      rfl
    refine ⟨p, _, rfl, Or.inl (Or.inl (Or.inl hl)), rfl, ?_, ?_⟩
    · rw [e]
      exact flat_strs _
    · rw [e, inV_str hx]
      exact ⟨_, rfl, iteF (q H' sm)⟩
def spCheckCell (K : PySem.W.Frag) (C : Addr) : Sp := fun vs H Q _ => ∃ (s : Addr) (d m : Int) (ts : List Tb) (v : V) (x : Str) (p : List Int), vs = [.ref s, v] ∧ SysAt K C H s d m ts ∧ Dp K H v (.tuple [.str x, .tuple (p.map .int)]) ∧ x ∈ ts.map (·.n) ∧ p.length ≤ 100000 ∧ okPoint d p = true ∧ ∀ H', Same H H' → Q .non H'
theorem ok_check_cell {f C : Addr} {fd : FuncData} (F : Fun K "check_cell" "check_cell" s_check_cell f fd) (T : Txt mg) (c_check_table : C8.Cal P w K mg base 3 "check_table" (spCheckTable K C) []) (c_is_point : C8.Cal P w K mg base 3 "is_point" (spIsPoint K C) []) : FnOk P w K mg base CX0 4 f fd ["system", "cell"] (spCheckCell K C) := by
  refine F.ok sc_check_cell (fun vs H Q E h => ?_) (fun cdv A outer s H vs Q E hr h => ?_)
  · obtain ⟨s, d, m, ts, v, x, p, rfl, _⟩ := h
    rfl
  · obtain ⟨s, d, m, ts, v, x, p, rfl, S, hv, hx, hz, hp, q⟩ := h
    refine ⟨_, (pss_cons (ps_asg (pv 1) (pg_tup rfl (pgs_cons (pg_name (i := 2) sc_check_cell.nd rfl (by first | exact Or.inl rfl | exact Or.inr rfl)) (pgs_cons (pg_name (i := 3) sc_check_cell.nd rfl (by first | exact Or.inl rfl | exact Or.inr rfl)) pgs_nil))))
  (pss_cons (ps_expr (C8.pe_c c_check_table hr (by decide) (by rfl) (pa_cons (pv 0) (pa_cons (pv 2) pa_nil))))
  (pss_one (ps_if (pt_not (pt_val (C8.pe_c c_is_point hr (by decide) (by rfl) (pa_cons (pv 0) (pa_cons (pv 3) pa_nil)))))
    (pss_one ps_never)
    pss_nil)))), ?_⟩
    obtain ⟨a, xs, rfl, ht, hd⟩ := dtup hv
    obtain ⟨x1, x2, rfl, h1, h2⟩ := dps2 hd
    obtain rfl := dstr h1
    refine ⟨_, rfl, a, _, rfl, ht, rfl, _, _, rfl, _, _, rfl, rfl, ?_⟩
    refine ⟨_, rfl, _, rfl, s, d, m, ts, x, rfl, S, hx, fun H1 sm => ?_⟩
    refine ⟨_, rfl, _, rfl, s, d, m, ts, x2, p, rfl, S.mono sm, dpm sm _ _ h2, hz, fun H2 sm2 => ⟨_, rfl, ?_⟩⟩
    rw [hp]
    exact iteF (q H2 (same_tr sm sm2))
/-- the reads of a table, a new list -/
def spReads (K : PySem.W.Frag) (C : Addr) : Sp := fun vs H Q _ => ∃ (B : Hp) (s : Addr) (d m : Int) (ts : List Tb) (x : Str) (tb : Tb), vs = [.ref s, .str x] ∧ Same B H ∧ SysAt K C B s d m ts ∧ x ∈ ts.map (·.n) ∧ ts.find? (fun t => decide (t.n = x)) = some tb ∧
  ∀ p H' xs, H p = none → Same H H' → H' p = some (.lst xs) → DpAll K B xs (tb.rs.map Rd1.d) → Q (.ref p) H'
theorem ok_reads {f C : Addr} {fd : FuncData} (F : Fun K "reads" "System.reads" s_System_reads f fd) (T : Txt mg) (TC : TxtC K mg C) (c_check_table : C8.Cal P w K mg base 3 "check_table" (spCheckTable K C) []) : FnOk P w K mg base CX0 4 f fd ["self", "name"] (spReads K C) := by
  refine F.ok sc_System_reads (fun vs H Q E h => ?_) (fun cdv A outer s H vs Q E hr h => ?_)
  · obtain ⟨B, s, d, m, ts, x, tb, rfl, _⟩ := h
    rfl
  · obtain ⟨B, s, d, m, ts, x, tb, rfl, sB, S, hx, hf, q⟩ := h
    have hu := hu_of hr
    refine ⟨_, (pss_cons (ps_expr (C8.pe_c c_check_table hr (by decide) (by rfl) (pa_cons (pv 0) (pa_cons (pv 1) pa_nil))))
  (pss_one (ps_ret (pe_callTy call_list_of (by rfl) T.b_list (by decide +kernel) (pa_cons (pe_ix ix_tup (pe_dget hu (pe_fld (pv 0) rfl) (pv 1) (fun _ _ => rfl)) pe_int (fun _ _ => rfl)) pa_nil))))), ?_⟩
    refine ⟨_, rfl, _, rfl, s, d, m, ts, x, rfl, S.mono sB, hx, fun H1 sm => ?_⟩
    obtain ⟨dx, t, kvs, h1, h2, h3⟩ := S.ob
    have sB1 := same_tr sB sm
    have h1 := sB1 _ _ h1
    have h2 := sB1 _ _ h2
    obtain ⟨v, e1, e2⟩ := h3.get hf
    obtain ⟨a, ys, rfl, ht, hd⟩ := dtup e2
    obtain ⟨y1, y2, rfl, g1, g2⟩ := dps2 hd
    obtain ⟨b, zs, rfl, ht2, hd2⟩ := dtup g2
    refine ⟨_, rfl, s, C, dx, _, _, rfl, h1, TC.cl, TC.nT, flds_t _ _ _, _, rfl, t, _, rfl, ?_, a, _, 1, _, rfl, rfl, sqt sB1 ht, rfl, b, zs, rfl, Or.inr (sqt sB1 ht2), fun p hp => ?_⟩
    · have g := DGet.k (k := Sum.inr x) h2
      rw [e1] at g
      exact g
    · exact q p _ _ (free_of sm hp) (same_tr sm (snew hp)) upd_same hd2
structure OkT (d : Int) (ts : List Tb) : Prop where
  names : ∀ t ∈ ts, isName t.n = true
  nodup : (ts.map (·.n)).Nodup
  few : (ts.map fun t => t.rs.length).sum ≤ 12
  reads : ∀ t ∈ ts, ∀ r ∈ t.rs, isRead d r = true
  here : ∀ t ∈ ts, ∀ r ∈ t.rs, r.t ∈ ts.map (·.n)
theorem name_len {x : Str} (h : isName x = true) : x.length ≤ 100000 := by
  unfold isName at h
  rw [Bool.and_eq_true, Bool.and_eq_true] at h
  have := of_decide_eq_true h.1.2
  omega
theorem read_len {d : Int} {r : Rd1} (h : isRead d r = true) : r.t.length ≤ 100000 := by
  unfold isRead at h
  rw [Bool.and_eq_true] at h
  exact name_len h.1
def nth (l : List Str) (i : Nat) : Str := l.getD i Str.empty
theorem nth_of {l : List Str} {i : Nat} {x : Str} (h : l[i]? = some x) : nth l i = x := by
  unfold nth
  rw [List.getD_eq_getElem?_getD, h]
  rfl
theorem nths (l : List Str) : (List.range l.length).map (fun i => V.str (nth l i)) = l.map V.str := by
  have := range_map_get (l.map V.str) (fun i => V.str (nth l i)) (fun i b hb => by
    rw [List.getElem?_map] at hb
    obtain ⟨c, h1, h2⟩ := Option.map_eq_some_iff.mp hb
    rw [nth_of h1]
    exact h2)
  rw [List.length_map] at this
  exact this
theorem cut_to (xs : List V) (i : Nat) (h : i ≤ xs.length) : cutV xs none (some (i : Int)) = xs.take i := by
  unfold cutV
  rw [show HT.sIx xs.length xs.length (some (i : Int)) = min i xs.length from HT.sIx_nat xs.length xs.length i, HT.sIx_none, List.drop_zero, Nat.sub_zero, Nat.min_eq_left h]
theorem notin_take {l : List Str} {i : Nat} {x : Str} (hn : l.Nodup) (h : l[i]? = some x) : x ∉ l.take i := by
  intro hm
  obtain ⟨j, hj, e⟩ := List.mem_iff_getElem.mp hm
  rw [List.length_take] at hj
  have e2 : l[j]? = some x := by
    rw [List.getElem_take] at e
    rw [List.getElem?_eq_getElem (by omega), e]
  have := nd_ix hn e2 h
  omega
theorem inV_no {x : Str} : ∀ {l : List Str}, x ∉ l → inV (.str x) (l.map V.str) = false := by
  intro l h
  unfold inV
  rw [List.any_map, List.any_eq_false]
  intro y hy e
  have e' : y = x := by
    first
      | exact of_decide_eq_true e
      | simpa [eqV] using e
  exact h (e' ▸ hy)
/-- what stands at the i-th place of a list of tables -/
theorem tb_at {H : Hp} {xs : List V} {ts : List Tb} {i : Nat} {x : V} (h : DpAll K H xs (ts.map Tb.d)) (e : xs[i]? = some x) : ∃ t a l ys, ts[i]? = some t ∧ x = .ref a ∧ SqT K H a [.str t.n, .int t.c, .ref l] ∧ SqL K H l ys ∧ DpAll K H ys (t.rs.map Rd1.d) := by
  obtain ⟨d, e1, e2⟩ := dps_get h e
  rw [List.getElem?_map] at e1
  obtain ⟨t, e3, rfl⟩ := Option.map_eq_some_iff.mp e1
  obtain ⟨a, zs, rfl, ht, hd⟩ := dtup e2
  obtain ⟨z1, z2, z3, rfl, h1, h2, h3⟩ := dps3 hd
  obtain rfl := dstr h1
  obtain rfl := dint h2
  obtain ⟨l, ys, rfl, hl, hy⟩ := dlst h3
  exact ⟨t, a, l, ys, e3, rfl, ht, hl, hy⟩
theorem rd_at {H : Hp} {xs : List V} {rs : List Rd1} {i : Nat} {x : V} (h : DpAll K H xs (rs.map Rd1.d)) (e : xs[i]? = some x) : ∃ r a b, rs[i]? = some r ∧ x = .ref a ∧ Dp K H x r.d ∧ SqT K H a [.str r.t, .ref b, .int r.f] ∧ SqT K H b (r.v.map V.int) := by
  obtain ⟨d, e1, e2⟩ := dps_get h e
  rw [List.getElem?_map] at e1
  obtain ⟨r, e3, rfl⟩ := Option.map_eq_some_iff.mp e1
  obtain ⟨a, zs, rfl, ht, hd⟩ := dtup e2
  obtain ⟨z1, z2, z3, rfl, h1, h2, h3⟩ := dps3 hd
  obtain rfl := dstr h1
  obtain rfl := dint h3
  obtain ⟨b, ys, rfl, hb, hy⟩ := dtup h2
  obtain rfl := dps_ints hy
  exact ⟨r, a, b, e3, rfl, e2, ht, hb⟩
def cnt (ts : List Tb) : Nat := (ts.map fun t => t.rs.length).sum
theorem cnt_take {ts : List Tb} {i : Nat} {t : Tb} (h : ts[i]? = some t) : cnt (ts.take (i + 1)) = cnt (ts.take i) + t.rs.length := by
  unfold cnt
  rw [List.take_add_one, h, List.map_append, List.sum_append]
  rfl
theorem cnt_le (ts : List Tb) (i : Nat) : cnt (ts.take i) ≤ cnt ts := by
  unfold cnt
  have e := congrArg (fun l : List Tb => (l.map fun t => t.rs.length).sum) (List.take_append_drop i ts)
  simp only [List.map_append, List.sum_append] at e
  omega
def spCheckTables (K : PySem.W.Frag) : Sp := fun vs H Q _ => ∃ (d : Int) (v : V) (ts : List Tb), vs = [.int d, v] ∧ Dp K H v (.list (ts.map Tb.d)) ∧ ts.length ≤ 6 ∧ OkT d ts ∧ ∀ H', Same H H' → Q .non H'
theorem ok_check_tables {f : Addr} {fd : FuncData} (F : Fun K "check_tables" "check_tables" s_check_tables f fd) (T : Txt mg) (c_is_name : C8.Cal P w K mg base 1 "is_name" spIsName []) (c_is_read : C8.Cal P w K mg base 2 "is_read" (spIsRead K) []) : FnOk P w K mg base CX0 3 f fd ["dimensions", "tables"] (spCheckTables K) := by
  refine F.ok sc_check_tables (fun vs H Q E h => ?_) (fun cdv A outer s H vs Q E hr h => ?_)
  · obtain ⟨d, v, ts, rfl, _⟩ := h
    rfl
  · obtain ⟨d, v, ts, rfl, hv, hl6, O, q⟩ := h
    refine ⟨_, (pss_cons (ps_setLc (i := 2) (own := [("table", 3)]) (g := gName 3) (tt := tYes) (by rfl) sc_check_tables.nd rfl rfl (sw_true rfl rfl rfl (by decide +kernel)) (pi_list (pv 1)) (blkOk_by (N := ["dimensions", "tables", "names", "table", "many", "row", "name", "_", "reads", "read"]) (sc := defScope s_check_tables) (by decide +kernel)) (fun _ _ _ _ _ => (pg_name (i := 3) sc_check_tables.nd rfl (by first | exact Or.inl rfl | exact Or.inr rfl))) (fun _ _ _ _ _ => pts_nil) (fun _ _ _ _ _ => (pe_ix (r := rIxT K) ix_tup (pv 3) pe_int (fun _ _ => rfl))))
  (pss_cons (ps_set (i := 4) sc_check_tables.nd rfl (by first | exact Or.inl rfl | exact Or.inr rfl) pe_int)
  (pss_one (ps_for PassesOwn.never rfl (pi_enum (by rfl) T.b_enumerate (pa_cons (pv 1) pa_nil)) (pg_tup rfl (pgs_cons (pg_name (i := 5) sc_check_tables.nd rfl (by first | exact Or.inl rfl | exact Or.inr rfl)) (pgs_cons (pg_tup rfl (pgs_cons (pg_name (i := 6) sc_check_tables.nd rfl (by first | exact Or.inl rfl | exact Or.inr rfl)) (pgs_cons (pg_name (i := 7) sc_check_tables.nd rfl (by first | exact Or.inl rfl | exact Or.inr rfl)) (pgs_cons (pg_name (i := 8) sc_check_tables.nd rfl (by first | exact Or.inl rfl | exact Or.inr rfl)) pgs_nil)))) pgs_nil)))
    (pss_cons (ps_aug (i := 4) sc_check_tables.nd rfl (by first | exact Or.inl rfl | exact Or.inr rfl) (pe_callB call_len_seq (by rfl) T.b_len PySem.boot_len (pa_cons (pv 8) pa_nil)) ip_add)
    (pss_cons (ps_if (PW.pt (pw_or (pt_not (pt_val (C8.pe_c c_is_name hr (by decide) (by rfl) (pa_cons (pv 6) pa_nil)))) (pw_or (pt_cmpR op_in_seq (pv 6) (pe_slice sl_list (pv 2) po_none (po_some (pv 5))) (by rfl)) (pw_or1 (pt_cmpR op_gt (pv 4) (C8.pe_gc (by rfl) T.g_MOST_READS) (nomark _))))))
      (pss_one ps_never)
      pss_nil)
    (pss_one (ps_if (pt_not (pt_val (pe_callB (cr_all rfl) (by rfl) T.b_all (by decide +kernel) (pa_cons (pe_lc (own := [("read", 9)]) (g := gName 9) (tt := tYes) (by rfl) sc_check_tables.nd (pi_list (pv 8)) (blkOk_by (N := ["dimensions", "tables", "names", "table", "many", "row", "name", "_", "reads", "read"]) (sc := defScope s_check_tables) (by decide +kernel)) (fun _ _ _ _ _ => (pg_name (i := 9) sc_check_tables.nd rfl (by first | exact Or.inl rfl | exact Or.inr rfl))) (fun _ _ _ _ _ => pts_nil) (fun _ _ _ _ _ => (C8.pe_c c_is_read hr (by decide) (by rfl) (pa_cons (pv 9) (pa_cons (pv 0) pa_nil))))) pa_nil))))
      (pss_one ps_never)
      pss_nil)))))))), ?_⟩
    obtain ⟨a, xs, rfl, ha, hd⟩ := dlst hv
    have hxl : xs.length = ts.length := by rw [dps_len hd, List.length_map]
    -- names = [table[0] ..]
    refine ⟨_, rfl, a, rfl, ⟨_, ha⟩, fun D hD => lc_flat (walk_list (K := K) (a := a) (xs := xs)) (fun i => .str (nth (ts.map (·.n)) i)) (by omega) hD (fun H' sm => sql sm ha) (fun i H x H' y => yat_same y) ?_ ?_⟩
    · rintro i x H1 H2 hi sm ⟨rfl, hx⟩ R hR
      obtain ⟨t, b, l, ys, e1, rfl, g1, _, _⟩ := tb_at (dpsm sm _ _ hd) hx
      have en : nth (ts.map (·.n)) i = t.n := nth_of (by rw [List.getElem?_map, e1]; rfl)
      refine ⟨rfl, _, rfl, b, _, 0, _, rfl, rfl, g1, rfl, ?_⟩
      have r := hR H2 same_refl
      rw [en] at r
      exact r
    · intro H1 sm hD1
      have hD1 : H1 D = some (.lst ((ts.map (·.n)).map V.str)) := by
        rw [hD1, hxl, ← nths, List.length_map]
      -- many = 0; the loop
      refine ⟨_, rfl, a, xs, rfl, sql sm ha, for_it (walk_enum (K := K) (a := a) (xs := xs)) (fun i σ H2 => ∃ y5 y6 y7 y8, σ = [some (.int d), some (.ref a), some (.ref D), none, some (.int (cnt (ts.take i))), y5, y6, y7, y8, none] ∧ Same H1 H2)
        ⟨none, none, none, none, rfl, same_refl⟩ (fun i σ H2 _ ⟨_, _, _, _, _, s2⟩ => sql (same_tr sm s2) ha) ?_ ?_⟩
      · rintro i x σ H2 H3 hi ⟨y5, y6, y7, y8, rfl, s2⟩ ⟨Tp, z1, z2, rfl, hT, rfl, e1, e2⟩
        cases e1
        have s3 : Same H1 (upd H2 Tp (.tup [.int (i : Nat), z2])) := same_tr s2 (snew hT)
        obtain ⟨t, b, l, ys, f1, rfl, g1, g2, g3⟩ := tb_at (dpsm (same_tr sm s3) _ _ hd) e2
        have htm : t ∈ ts := List.mem_of_getElem? f1
        have hyl : ys.length = t.rs.length := by rw [dps_len g3, List.length_map]
        refine ⟨Tp, _, rfl, Or.inl (Or.inl upd_same), rfl, _, _, rfl, _, _, rfl, b, _, rfl, g1, rfl, _, _, rfl, _, _, rfl, _, _, rfl, rfl, rfl, ?_⟩
        -- many += len(reads)
        refine ⟨_, rfl, _, rfl, l, ys, rfl, Or.inl g2, _, _, rfl, rfl, ?_⟩
        have hc := cnt_take f1
        have hc2 := cnt_le ts (i + 1)
        have h12 : cnt ts ≤ 12 := O.few
        -- the first test
        refine ⟨.str t.n, rfl, t.n, rfl, name_len (O.names t htm), fun H4 s4 => ⟨_, rfl, ?_⟩⟩
        rw [O.names t htm]
        refine iteF ?_
        have hD4 : H4 D = some (.lst ((ts.map (·.n)).map V.str)) := s4 _ _ (s3 _ _ hD1)
        refine ⟨_, rfl, _, rfl, _, rfl, (i : Int), rfl, D, _, rfl, Or.inl (Or.inl hD4), fun p hp => ?_⟩
        have s5 : Same H4 (upd H4 p (.lst (cutV ((ts.map (·.n)).map V.str) none (some (i : Int))))) := snew hp
        rw [cut_to _ _ (by rw [List.length_map, List.length_map]; omega), ← List.map_take]
        refine ⟨p, _, rfl, Or.inl (Or.inl (Or.inl upd_same)), rfl, flat_strs _, false, ?_, iteF ?_⟩
        · rw [inV_no (notin_take O.nodup (by rw [List.getElem?_map, f1]; rfl))]
          rfl
        · refine ⟨_, rfl, _, 12, rfl, rfl, decide (12 < (cnt (ts.take i) : Int) + (ys.length : Int)), rfl, ?_⟩
          rw [decide_eq_false (by omega)]
          refine iteF ?_
          -- the second test
          have s6 : Same H1 (upd H4 p (.lst (((ts.map (·.n)).take i).map V.str))) := same_tr s3 (same_tr s4 (snew hp))
          refine ⟨_, rfl, l, rfl, ⟨ys, sql (same_tr s4 (snew hp)) g2⟩, fun D2 hD2 => lc_flat (walk_list (K := K) (a := l) (xs := ys)) (fun j => .bl true) (by omega) hD2 (fun H' sm' => sql sm' (sql (same_tr s4 (snew hp)) g2)) (fun i H x H' y => yat_same y) ?_ ?_⟩
          · rintro j x H5 H6 hj sm5 ⟨rfl, hx⟩ R hR
            obtain ⟨r, ra, rb, e3, rfl, e4, _, _⟩ := rd_at (dpsm sm5 _ _ (dpsm (same_tr s4 (snew hp)) _ _ g3)) hx
            have hro := O.reads t htm r (List.mem_of_getElem? e3)
            refine ⟨rfl, _, rfl, _, rfl, .ref ra, r, d, rfl, e4, read_len hro, fun H7 s7 => ?_⟩
            rw [hro]
            exact hR H7 s7
          · intro H5 sm5 hD5
            refine ⟨D2, (List.range ys.length).map fun _ => true, rfl, Or.inl (Or.inl ?_), ⟨_, rfl, ?_⟩⟩
            · rw [hD5, List.map_map]
              rfl
            · have e : ((List.range ys.length).map fun _ => true).all id = true := by
                rw [List.all_map, List.all_eq_true]
                intro _ _
                rfl
              rw [e]
              refine iteF ?_
              refine ⟨some (.int (i : Int)), some (.str t.n), some (.int t.c), some (.ref l), ?_, same_tr s6 sm5⟩
              rw [hc]
              have ec : (cnt (ts.take i) : Int) + (ys.length : Int) = ((cnt (ts.take i) + t.rs.length : Nat) : Int) := by omega
              rw [← ec]
              rfl
      · rintro σ H2 ⟨_, _, _, _, rfl, s2⟩
        exact q H2 (same_tr sm s2)
theorem dict_flat_any : True := True.intro
def spCheckRead (K : PySem.W.Frag) : Sp := fun vs H Q _ => ∃ (d : Int) (v : V) (ts : List Tb), vs = [v] ∧ Dp K H v (.list (ts.map Tb.d)) ∧ ts.length ≤ 6 ∧ OkT d ts ∧ ∀ H', Same H H' → Q .non H'
theorem few_reads {d : Int} {ts : List Tb} (O : OkT d ts) {t : Tb} (h : t ∈ ts) : t.rs.length ≤ 12 := by
  obtain ⟨i, hi⟩ := List.mem_iff_getElem?.mp h
  have h1 := cnt_take hi
  have h2 := cnt_le ts (i + 1)
  have h3 : cnt ts ≤ 12 := O.few
  omega
theorem ok_check_read {f : Addr} {fd : FuncData} (F : Fun K "check_tables_that_are_read" "check_tables_that_are_read" s_check_tables_that_are_read f fd) (T : Txt mg) : FnOk P w K mg base CX0 3 f fd ["tables"] (spCheckRead K) := by
  refine F.ok sc_check_tables_that_are_read (fun vs H Q E h => ?_) (fun cdv A outer s H vs Q E hr h => ?_)
  · obtain ⟨d, v, ts, rfl, _⟩ := h
    rfl
  · obtain ⟨d, v, ts, rfl, hv, hl6, O, q⟩ := h
    refine ⟨_, (pss_cons (ps_set (i := 1) sc_check_tables_that_are_read.nd rfl (by first | exact Or.inl rfl | exact Or.inr rfl) (pe_lc (own := [("table", 2)]) (g := gName 2) (tt := tYes) (by rfl) sc_check_tables_that_are_read.nd (pi_list (pv 0)) (blkOk_by (N := ["tables", "names", "table", "row", "read"]) (sc := defScope s_check_tables_that_are_read) (by decide +kernel)) (fun _ _ _ _ _ => (pg_name (i := 2) sc_check_tables_that_are_read.nd rfl (by first | exact Or.inl rfl | exact Or.inr rfl))) (fun _ _ _ _ _ => pts_nil) (fun _ _ _ _ _ => (pe_ix (r := rIxT K) ix_tup (pv 2) pe_int (fun _ _ => rfl)))))
  (pss_one (ps_for PassesOwn.never rfl (pi_enum (by rfl) T.b_enumerate (pa_cons (pv 0) pa_nil)) (pg_tup rfl (pgs_cons (pg_name (i := 3) sc_check_tables_that_are_read.nd rfl (by first | exact Or.inl rfl | exact Or.inr rfl)) (pgs_cons (pg_name (i := 2) sc_check_tables_that_are_read.nd rfl (by first | exact Or.inl rfl | exact Or.inr rfl)) pgs_nil)))
    (pss_one (ps_if (pt_not (pt_val (pe_callB (cr_all rfl) (by rfl) T.b_all (by decide +kernel) (pa_cons (pe_lc (own := [("read", 4)]) (g := gName 4) (tt := tYes) (by rfl) sc_check_tables_that_are_read.nd (pi_list (pe_ix ix_tup (pv 2) pe_int (fun _ _ => rfl))) (blkOk_by (N := ["tables", "names", "table", "row", "read"]) (sc := defScope s_check_tables_that_are_read) (by decide +kernel)) (fun _ _ _ _ _ => (pg_name (i := 4) sc_check_tables_that_are_read.nd rfl (by first | exact Or.inl rfl | exact Or.inr rfl))) (fun _ _ _ _ _ => pts_nil) (fun _ _ _ _ _ => (pe_cmpR (r := rIn K false) op_in_seq (pe_ix (r := rIxT K) ix_tup (pv 4) pe_int (fun _ _ => rfl)) (pv 1) (by rfl)))) pa_nil))))
      (pss_one ps_never)
      pss_nil))))), ?_⟩
    obtain ⟨a, xs, rfl, ha, hd⟩ := dlst hv
    have hxl : xs.length = ts.length := by rw [dps_len hd, List.length_map]
    refine ⟨_, rfl, a, rfl, ⟨_, ha⟩, fun D hD => lc_flat (walk_list (K := K) (a := a) (xs := xs)) (fun i => .str (nth (ts.map (·.n)) i)) (by omega) hD (fun H' sm => sql sm ha) (fun i H x H' y => yat_same y) ?_ ?_⟩
    · rintro i x H1 H2 hi sm ⟨rfl, hx⟩ R hR
      obtain ⟨t, b, l, ys, e1, rfl, g1, _, _⟩ := tb_at (dpsm sm _ _ hd) hx
      have en : nth (ts.map (·.n)) i = t.n := nth_of (by rw [List.getElem?_map, e1]; rfl)
      refine ⟨rfl, _, rfl, b, _, 0, _, rfl, rfl, g1, rfl, ?_⟩
      have r := hR H2 same_refl
      rw [en] at r
      exact r
    · intro H1 sm hD1
      have hD1 : H1 D = some (.lst ((ts.map (·.n)).map V.str)) := by
        rw [hD1, hxl, ← nths, List.length_map]
      refine ⟨_, rfl, a, xs, rfl, sql sm ha, for_it (walk_enum (K := K) (a := a) (xs := xs)) (fun i σ H2 => ∃ y2 y3, σ = [some (.ref a), some (.ref D), y2, y3, none] ∧ Same H1 H2)
        ⟨none, none, rfl, same_refl⟩ (fun i σ H2 _ ⟨_, _, _, s2⟩ => sql (same_tr sm s2) ha) ?_ ?_⟩
      · rintro i x σ H2 H3 hi ⟨y2, y3, rfl, s2⟩ ⟨Tp, z1, z2, rfl, hT, rfl, e1, e2⟩
        cases e1
        have s3 : Same H1 (upd H2 Tp (.tup [.int (i : Nat), z2])) := same_tr s2 (snew hT)
        obtain ⟨t, b, l, ys, f1, rfl, g1, g2, g3⟩ := tb_at (dpsm (same_tr sm s3) _ _ hd) e2
        have htm : t ∈ ts := List.mem_of_getElem? f1
        have hyl : ys.length = t.rs.length := by rw [dps_len g3, List.length_map]
        have h12 := few_reads O htm
        refine ⟨Tp, _, rfl, Or.inl (Or.inl upd_same), rfl, _, _, rfl, _, _, rfl, rfl, ?_⟩
        refine ⟨_, rfl, b, _, 2, _, rfl, rfl, g1, rfl, l, rfl, ⟨ys, g2⟩, fun D2 hD2 => lc_flat (walk_list (K := K) (a := l) (xs := ys)) (fun j => .bl true) (by omega) hD2 (fun H' sm' => sql sm' g2) (fun i H x H' y => yat_same y) ?_ ?_⟩
        · rintro j x H5 H6 hj sm5 ⟨rfl, hx⟩ R hR
          obtain ⟨r, ra, rb, e3, rfl, e4, g5, _⟩ := rd_at (dpsm sm5 _ _ g3) hx
          have hm := O.here t htm r (List.mem_of_getElem? e3)
          refine ⟨rfl, _, rfl, ra, _, 0, _, rfl, rfl, g5, rfl, _, rfl, D, _, rfl, Or.inl (Or.inl (Or.inl (sm5 _ _ (s3 _ _ hD1)))), rfl, flat_strs _, ?_⟩
          rw [inV_str hm]
          exact hR H6 same_refl
        · intro H5 sm5 hD5
          refine ⟨D2, (List.range ys.length).map fun _ => true, rfl, Or.inl (Or.inl ?_), ⟨_, rfl, ?_⟩⟩
          · rw [hD5, List.map_map]
            rfl
          · have e : ((List.range ys.length).map fun _ => true).all id = true := by
              rw [List.all_map, List.all_eq_true]
              intro _ _
              rfl
            rw [e]
            refine iteF ?_
            exact ⟨some (.ref b), some (.int (i : Int)), rfl, same_tr s3 sm5⟩
      · rintro σ H2 ⟨_, _, rfl, s2⟩
        exact q H2 (same_tr sm s2)
def spCheckSystem (K : PySem.W.Frag) : Sp := fun vs H Q _ => ∃ (d m : Int) (v : V) (ts : List Tb), vs = [.int d, v, .int m] ∧ 1 ≤ d ∧ d ≤ 3 ∧ 2 ≤ m ∧ Dp K H v (.list (ts.map Tb.d)) ∧ 1 ≤ ts.length ∧ ts.length ≤ 6 ∧ OkT d ts ∧ ∀ H', Same H H' → Q .non H'
theorem ok_check_system {f : Addr} {fd : FuncData} (F : Fun K "check_system" "check_system" s_check_system f fd) (T : Txt mg) (c_check_tables : C8.Cal P w K mg base 3 "check_tables" (spCheckTables K) []) (c_check_tables_that_are_read : C8.Cal P w K mg base 3 "check_tables_that_are_read" (spCheckRead K) []) :
    FnOk P w K mg base CX0 4 f fd ["dimensions", "tables", "modulus"] (spCheckSystem K) := by
  refine F.ok sc_check_system (fun vs H Q E h => ?_) (fun cdv A outer s H vs Q E hr h => ?_)
  · obtain ⟨d, m, v, ts, rfl, _⟩ := h
    rfl
  · obtain ⟨d, m, v, ts, rfl, hd1, hd3, hm, hv, hl1, hl6, O, q⟩ := h
    refine ⟨_, (pss_cons (ps_if (pt_not (pt_chain op_le op_le pe_int (pv 0) (C8.pe_gc (by rfl) T.g_MOST_DIMENSIONS)))
    (pss_one ps_never)
    pss_nil)
  (pss_cons (ps_if (pt_not (pt_chain op_le op_le pe_int (pe_callB call_len_seq (by rfl) T.b_len PySem.boot_len (pa_cons (pv 1) pa_nil)) (C8.pe_gc (by rfl) T.g_MOST_TABLES)))
    (pss_one ps_never)
    pss_nil)
  (pss_cons (ps_expr (C8.pe_c c_check_tables hr (by decide) (by rfl) (pa_cons (pv 0) (pa_cons (pv 1) pa_nil))))
  (pss_cons (ps_expr (C8.pe_c c_check_tables_that_are_read hr (by decide) (by rfl) (pa_cons (pv 1) pa_nil)))
  (pss_one (ps_if (pt_cmpR op_lt (pv 2) pe_int (nomark _))
    (pss_one ps_never)
    pss_nil)))))), ?_⟩
    obtain ⟨a, xs, rfl, ha, hd⟩ := dlst hv
    have hxl : xs.length = ts.length := by rw [dps_len hd, List.length_map]
    refine ⟨_, rfl, 1, d, rfl, rfl, decide (1 ≤ d), rfl, ?_⟩
    rw [decide_eq_true hd1]
    refine iteT ⟨d, 3, rfl, rfl, decide (d ≤ 3), rfl, ?_⟩
    rw [decide_eq_true hd3]
    refine iteF ?_
    refine ⟨_, rfl, a, xs, rfl, Or.inl ha, 1, _, rfl, rfl, decide (1 ≤ (xs.length : Int)), rfl, ?_⟩
    rw [decide_eq_true (by omega)]
    refine iteT ⟨_, 6, rfl, rfl, decide ((xs.length : Int) ≤ 6), rfl, ?_⟩
    rw [decide_eq_true (by omega)]
    refine iteF ?_
    refine ⟨_, rfl, _, rfl, d, .ref a, ts, rfl, hv, hl6, O, fun H1 s1 => ?_⟩
    refine ⟨_, rfl, d, .ref a, ts, rfl, dpm s1 _ _ hv, hl6, O, fun H2 s2 => ?_⟩
    refine ⟨_, rfl, m, 2, rfl, rfl, decide (m < 2), rfl, ?_⟩
    rw [decide_eq_false (by omega)]
    exact iteF (q H2 (same_tr s1 s2))
/-- a def with a code object that is known -/
structure FunC (K : PySem.W.Frag) (x qual : Str) (st : Stmt) (f : Addr) (fd : FuncData) (c : Addr) : Prop where
  ex : ∃ (oc : Value) (od : Option Addr) (dV kV doc pm : Value) (an : Option Addr) (ct : Value) (osl : Array (Option Value)),
    fd = PySem.W.fnOf x qual (defArgs st) (defBody st) (defScope st) dV kV doc pm an (.ref c) ct ∧ K.lookup f = some ⟨oc, od, .func fd, osl⟩ ∧ PySem.W.codeIn K (.ref c) qual = true
theorem FunC.ok {x qual : Str} {st : Stmt} {f c : Addr} {fd : FuncData} {N ps : List Str} {k : Nat} {sp : Sp} (F : FunC K x qual st f fd c) (S : FnScope N ps (defScope st)) (len : ∀ vs H Q E, sp vs H Q E → vs.length = ps.length)
    (hbody : ∀ (A : Around) (outer : List Env) (s : Shared) (H : Hp) (vs : List V) (Q : VK) (E : XK), Room k (A.deeper (envOfC qual (defScope st) s.heap.objs.size f (.ref c))) → sp vs H Q E →
      ∃ t, PSs (cxOf CX0 P w K mg base N qual (defScope st) f (.ref c) A outer s H E).nox (defBody st) t ∧ t { nx := fun _ H' => Q .non H', rt := Q } (start N vs) H) : FnOk P w K mg base CX0 (k + 1) f fd ps sp := by
  obtain ⟨oc, od, dV, kV, doc, pm, an, ct, osl, rfl, lk, hcd⟩ := F.ex
  refine fn_of lk hcd S len fun A outer s H vs Q E hr hsp => ?_
  obtain ⟨t, h, q⟩ := hbody A outer s H vs Q E hr hsp
  exact ⟨t, h.nox, q⟩
def srt (ts : List Tb) : List Tb := ts.mergeSort (leK Tb.n)
/-- what a system may be made of -/
structure OkSys (d m : Int) (ts : List Tb) : Prop where
  d1 : 1 ≤ d
  d3 : d ≤ 3
  m2 : 2 ≤ m
  l1 : 1 ≤ ts.length
  l6 : ts.length ≤ 6
  ok : OkT d ts
/-- all but the tables of code objects and one object stay -/
def ExtB (s : Addr) (H H' : Hp) : Prop := ∀ b o, H b = some o → b ≠ s → (∀ ps, o ≠ .tbl ps) → H' b = some o
def spInit (K : PySem.W.Frag) (C : Addr) (TT : List (Addr × Str)) : Sp := fun vs H Q _ => ∃ (s dx : Addr) (d m : Int) (v : V) (ts : List Tb), vs = [.ref s, .int d, v, .int m] ∧ H s = some (.ins C dx []) ∧ LamX.Tabs TT H ∧ OkSys d m ts ∧ Dp K H v (.list (ts.map Tb.d)) ∧
  ∀ H', ExtB s H H' → LamX.Tabs TT H' → SysAt K C H' s d m (srt ts) → Q .non H'
theorem ok_init {f C c Pt : Addr} {fd : FuncData} {TT : List (Addr × Str)} (F : FunC K "__init__" "System.__init__" s_System_init f fd c) (T : Txt mg) (TC : TxtC K mg C) (c_check_system : C8.Cal P w K mg base 4 "check_system" (spCheckSystem K) [])
    (TBc : LamX.TabB base mg c Pt) (hmT : (Pt, ("System.__init__.<locals>.<lambda>" : Str)) ∈ TT) (huT : ∀ p ∈ TT, p.1 = Pt → p.2 = ("System.__init__.<locals>.<lambda>" : Str)) : FnOk P w K mg base CX0 5 f fd ["self", "dimensions", "tables", "modulus"] (spInit K C TT) := by
  refine F.ok sc_System_init (fun vs H Q E h => ?_) (fun A outer sh H vs Q E hr h => ?_)
  · obtain ⟨s, dx, d, m, v, ts, rfl, _⟩ := h
    rfl
  · obtain ⟨s, dx, d, m, v, ts, rfl, hs, hT, O, hv, q⟩ := h
    have hu := hu_of hr
    have hcode : (cxOf CX0 P w K mg base ["self", "dimensions", "tables", "modulus", "rows", "name", "constant", "reads"] "System.__init__" (defScope s_System_init) f (.ref c) A outer sh H E).nox.env.code = .ref c := rfl
    refine ⟨_, (pss_cons (ps_expr (C8.pe_c c_check_system hr (by decide) (by rfl) (pa_cons (pv 1) (pa_cons (pv 2) (pa_cons (pv 3) pa_nil)))))
  (pss_cons (ps_fld (pv 0) (pv 1) rfl)
  (pss_cons (ps_fld (pv 0) (pv 3) rfl)
  (pss_cons (ps_set (i := 4) sc_System_init.nd rfl (by first | exact Or.inl rfl | exact Or.inr rfl) (pe_sortKey Tb.n (a := "table") (by rfl) T.b_sorted (pv 2) hr TBc hcode hmT huT rfl ⟨rfl, rfl, rfl, rfl, by decide +kernel, by decide +kernel⟩ (by decide) (fun _ _ _ _ _ _ => rfl)))
  (pss_one (ps_fld (pv 0) (pe_dc (own := [("name", 5), ("constant", 6), ("reads", 7)]) (g := gTup K 3 (gCons (gName 5) (gCons (gName 6) (gCons (gName 7) gNil)))) (tt := tYes) (by rfl) sc_System_init.nd (pi_list (pv 4)) (blkOk_by (N := ["self", "dimensions", "tables", "modulus", "rows", "name", "constant", "reads"]) (sc := defScope s_System_init) (by decide +kernel)) (fun _ _ _ _ _ => (pg_tup rfl (pgs_cons (pg_name (i := 5) sc_System_init.nd rfl (by first | exact Or.inl rfl | exact Or.inr rfl)) (pgs_cons (pg_name (i := 6) sc_System_init.nd rfl (by first | exact Or.inl rfl | exact Or.inr rfl)) (pgs_cons (pg_name (i := 7) sc_System_init.nd rfl (by first | exact Or.inl rfl | exact Or.inr rfl)) pgs_nil))))) (fun _ _ _ _ _ => pts_nil) (fun _ _ _ _ _ => (pv 5)) (fun _ _ _ _ _ => (pe_tup (pa_cons (pv 6) (pa_cons (pe_callTy (r := rTupS K) call_tuple_of (by rfl) T.b_tuple (by decide +kernel) (pa_cons (pv 7) pa_nil)) pa_nil))))) rfl)))))), ?_⟩
    -- check_system(..)
    refine ⟨_, rfl, _, rfl, _, rfl, d, m, v, ts, rfl, O.d1, O.d3, O.m2, hv, O.l1, O.l6, O.ok, fun H1 s1 => ?_⟩
    have hs1 := s1 _ _ hs
    have hT1 := hT.ext s1
    -- self._dimensions, self._modulus
    refine ⟨_, rfl, _, rfl, s, C, dx, _, rfl, hs1, TC.cl, TC.nD, (by show 0 < 1000; decide), ?_⟩
    have hT2 := tabs_ins (o := .ins C dx (putF "_dimensions" (.int d) [])) hT1 hs1
    have d2 : SD H (upd H1 s (.ins C dx (putF "_dimensions" (.int d) []))) := SD.upd (.of s1) hs1 rfl
    have e2 : ExtB s H (upd H1 s (.ins C dx (putF "_dimensions" (.int d) []))) := fun b o h nb _ => by
      rw [upd_ne nb]
      exact s1 b o h
    have hs2 : (upd H1 s (.ins C dx (putF "_dimensions" (.int d) []))) s = some (.ins C dx (putF "_dimensions" (.int d) [])) := upd_same
    generalize upd H1 s (.ins C dx (putF "_dimensions" (.int d) [])) = H2 at hT2 d2 e2 hs2 ⊢
    refine ⟨_, rfl, _, rfl, s, C, dx, _, rfl, hs2, TC.cl, TC.nM, (by show 1 < 1000; decide), ?_⟩
    have hT3 := tabs_ins (o := .ins C dx (putF "_modulus" (.int m) (putF "_dimensions" (.int d) []))) hT2 hs2
    have d3 : SD H (upd H2 s (.ins C dx (putF "_modulus" (.int m) (putF "_dimensions" (.int d) [])))) := SD.upd d2 hs2 rfl
    have e3 : ExtB s H (upd H2 s (.ins C dx (putF "_modulus" (.int m) (putF "_dimensions" (.int d) [])))) := fun b o h nb nt => by
      rw [upd_ne nb]
      exact e2 b o h nb nt
    have hs3 : (upd H2 s (.ins C dx (putF "_modulus" (.int m) (putF "_dimensions" (.int d) [])))) s = some (.ins C dx (putF "_modulus" (.int m) (putF "_dimensions" (.int d) []))) := upd_same
    generalize upd H2 s (.ins C dx (putF "_modulus" (.int m) (putF "_dimensions" (.int d) []))) = H3 at hT3 d3 e3 hs3 ⊢
    -- rows = sorted(..)
    obtain ⟨a, xs, rfl, ha, hd⟩ := dlst hv
    have hxl : xs.length = ts.length := by rw [dps_len hd, List.length_map]
    have hfst : (xs.zip ts).map Prod.fst = xs := by rw [List.map_fst_zip]; omega
    have hsnd : (xs.zip ts).map Prod.snd = ts := by rw [List.map_snd_zip]; omega
    have hbs : ∀ y ∈ xs.zip ts, Dp K H3 y.1 y.2.d := fun y hy => by
      obtain ⟨i, hi⟩ := List.mem_iff_getElem?.mp hy
      obtain ⟨h1, h2⟩ := List.getElem?_zip_eq_some.mp hi
      obtain ⟨t, _, _, _, e1, _⟩ := tb_at hd h1
      obtain ⟨dd, f1, f2⟩ := dps_get hd h1
      rw [List.getElem?_map, h2] at f1
      cases f1
      exact dpd d3 _ _ f2
    refine ⟨_, rfl, a, xs.zip ts, rfl, (by rw [hfst]; exact sqld d3 ha), hT3, fun y hy => ?_, fun H4 x4 hT4 p hp => ?_⟩
    · obtain ⟨b, zs, e1, ht, hz⟩ := dtup (hbs y hy)
      obtain ⟨z1, z2, z3, rfl, g1, g2, g3⟩ := dps3 hz
      obtain rfl := dstr g1
      exact ⟨b, [z2, z3], e1, ht⟩
    · have hsrt : ((xs.zip ts).mergeSort (leK fun y => y.2.n)).map Prod.snd = srt ts := by
        rw [show (leK fun y : V × Tb => y.2.n) = fun a b => leK Tb.n a.2 b.2 from rfl]
        rw [List.map_mergeSort (r := fun a b : V × Tb => leK Tb.n a.2 b.2) (s := leK Tb.n) (f := Prod.snd) (fun _ _ _ _ => rfl), hsnd]
        rfl
      have hmem : ∀ y ∈ (xs.zip ts).mergeSort (leK fun y => y.2.n), Dp K H4 y.1 y.2.d := fun y hy => dpd (.ext x4) _ _ (hbs y (List.mem_mergeSort.mp hy))
      generalize hL : (xs.zip ts).mergeSort (leK fun y => y.2.n) = bs at hsrt hmem ⊢
      have hbl : bs.length = ts.length := by rw [← hL, List.length_mergeSort, List.length_zip]; omega
      have hs4 : H4 s = some (.ins C dx (putF "_modulus" (.int m) (putF "_dimensions" (.int d) []))) := x4 _ _ hs3 fun ps z => by cases z
      have s5 : Same H4 (upd H4 p (.lst (bs.map Prod.fst))) := snew hp
      have hnd : (bs.map fun y => y.2.n).Nodup := by
        have e : (bs.map fun y => y.2.n) = (srt ts).map (·.n) := by
          rw [← hsrt, List.map_map]
          rfl
        rw [e]
        exact ((List.mergeSort_perm ts (leK Tb.n)).map (·.n)).nodup_iff.mpr O.ok.nodup
      -- self._tables = {..}
      refine ⟨_, rfl, p, rfl, ⟨_, Or.inl (Or.inl upd_same)⟩, fun D hD => dc_it (walk_list (K := K) (a := p) (xs := bs.map Prod.fst)) (fun i H' => ∃ (B : Hp) (kvs : List (Key × V)), Same (upd H4 p (.lst (bs.map Prod.fst))) B ∧ B D = none ∧ Same B H' ∧ H' D = some (.dK kvs) ∧ KvAt K B kvs ((srt ts).take i))
        ⟨_, [], same_refl, hD, snew hD, upd_same, .nil⟩ (fun i H' _ ⟨B, kvs, b1, b2, b3, _⟩ => sql b3 (sql b1 (Or.inl (Or.inl upd_same)))) ?_ ?_⟩
      · rintro i x _ Hi hi ⟨B, kvs, b1, b2, b3, b4, b5⟩ ⟨rfl, hx⟩
        rw [List.getElem?_map] at hx
        obtain ⟨y, hy, rfl⟩ := Option.map_eq_some_iff.mp hx
        have hyd := dpm b1 _ _ (dpm s5 _ _ (hmem y (List.mem_of_getElem? hy)))
        obtain ⟨b, zs, e1, ht, hz⟩ := dtup hyd
        obtain ⟨z1, z2, z3, rfl, g1, g2, g3⟩ := dps3 hz
        obtain rfl := dstr g1
        obtain rfl := dint g2
        obtain ⟨l, ys, rfl, hl, hys⟩ := dlst g3
        have hsi : (srt ts)[i]? = some y.2 := by
          rw [← hsrt, List.getElem?_map, hy]
          rfl
        refine ⟨b, _, e1, sqt b3 ht, rfl, _, _, rfl, _, _, rfl, _, _, rfl, rfl, rfl, ?_⟩
        refine ⟨_, rfl, _, rfl, _, rfl, l, ys, rfl, Or.inl ⟨sql b3 hl, fun q1 hq1 => ?_⟩⟩
        refine ⟨(by show 2 ≤ sizeLine; decide), fun q2 hq2 => ?_⟩
        have nq1 : q1 ≠ D := fun z => by
          rw [z, b4] at hq1
          cases hq1
        have nq2 : q2 ≠ D := fun z => by
          rw [z, upd_ne nq1.symm, b4] at hq2
          cases hq2
        have bq1 : B q1 = none := free_of b3 hq1
        have c1 : Same (upd B q1 (.tup ys)) (upd Hi q1 (.tup ys)) := fun c o h => by
          by_cases hc : c = q1
          · rw [hc, upd_same] at h ⊢
            exact h
          · rw [upd_ne hc] at h ⊢
            exact b3 c o h
        have bq2 : (upd B q1 (.tup ys)) q2 = none := free_of c1 hq2
        have c2 : Same (upd (upd B q1 (.tup ys)) q2 (.tup [.int y.2.c, .ref q1])) (upd (upd Hi q1 (.tup ys)) q2 (.tup [.int y.2.c, .ref q1])) := fun c o h => by
          by_cases hc : c = q2
          · rw [hc, upd_same] at h ⊢
            exact h
          · rw [upd_ne hc] at h ⊢
            exact c1 c o h
        have bb : Same B (upd (upd B q1 (.tup ys)) q2 (.tup [.int y.2.c, .ref q1])) := same_tr (snew bq1) (snew bq2)
        have bD : (upd (upd B q1 (.tup ys)) q2 (.tup [.int y.2.c, .ref q1])) D = none := by
          rw [upd_ne nq2.symm, upd_ne nq1.symm]
          exact b2
        have hDv : (upd (upd Hi q1 (.tup ys)) q2 (.tup [.int y.2.c, .ref q1])) D = some (.dK kvs) := by
          rw [upd_ne nq2.symm, upd_ne nq1.symm]
          exact b4
        have hkl : kvs.length ≤ 6 := by
          rw [b5.len, List.length_take]
          have := O.l6
          have : (srt ts).length = ts.length := List.length_mergeSort _
          omega
        refine ⟨kvs, Sum.inr y.2.n, rfl, hDv, small1000 (by omega), ?_⟩
        have hno : valV kvs (Sum.inr y.2.n) = none := b5.noVal (by
          have e : ((srt ts).take i).map (·.n) = (bs.map fun y => y.2.n).take i := by
            rw [← hsrt, List.map_take, List.map_map]
            rfl
          rw [e]
          exact notin_take hnd (by rw [List.getElem?_map, hy]; rfl))
        refine ⟨_, kvs ++ [(Sum.inr y.2.n, .ref q2)], same_tr b1 bb, bD, ?_, ?_, ?_⟩
        · intro c o h
          have hc : c ≠ D := fun z => by
            rw [z, bD] at h
            cases h
          rw [upd_ne hc]
          exact c2 c o h
        · rw [upd_same, putK_new _ hno]
        · rw [List.take_add_one, hsi]
          refine KvAt.app (b5.mono bb) (.cons ⟨rfl, ?_⟩ .nil)
          refine .tup (Or.inl (Or.inl upd_same)) (.cons (.int _) (.cons (.tup (Or.inl (Or.inl ?_)) (dpsm bb _ _ hys)) .nil))
          rw [upd_ne (ne_of_none upd_same bq2)]
          exact upd_same
      · rintro Hf ⟨B, kvs, b1, b2, b3, b4, b5⟩
        have hlen : (bs.map Prod.fst).length = (srt ts).length := by rw [← hsrt, List.length_map, List.length_map]
        rw [hlen, List.take_length] at b5
        have sf : Same H4 Hf := same_tr s5 (same_tr b1 b3)
        have hsf := sf _ _ hs4
        refine ⟨_, rfl, s, C, dx, _, rfl, hsf, TC.cl, TC.nT, (by show 2 < 1000; decide), ?_⟩
        refine q _ (fun b o h nb nt => ?_) (tabs_ins (hT4.ext sf) hsf) ⟨dx, D, kvs, upd_same, ?_, ?_⟩
        · rw [upd_ne nb]
          exact sf _ _ (x4 _ _ (e3 b o h nb nt) nt)
        · rw [upd_ne fun z => by
            rw [z, hsf] at b4
            cases b4]
          exact b4
        · exact b5.monoD (SD.upd (.of b3) hsf rfl)
end
end Fr

namespace Fr
open PySem PySem.Spec PyProof.Rows L2
abbrev s_step_back : Stmt := topS 25
theorem sc_step_back : FnScope ["point", "vector", "place", "start", "step"] ["point", "vector"] (defScope s_step_back) := ⟨rfl, rfl, rfl, by decide +kernel, rfl, by decide +kernel, by decide +kernel⟩
-- slots: 0 point, 1 vector, 2 place, 3 start, 4 step
abbrev s_cells_read : Stmt := topS 27
theorem sc_cells_read : FnScope ["reads", "point", "found", "table", "vector", "_", "place"] ["reads", "point"] (defScope s_cells_read) := ⟨rfl, rfl, rfl, by decide +kernel, rfl, by decide +kernel, by decide +kernel⟩
-- slots: 0 reads, 1 point, 2 found, 3 table, 4 vector, 5 _, 6 place
abbrev s_reads_from : Stmt := topS 28
theorem sc_reads_from : FnScope ["system", "cell", "name", "point"] ["system", "cell"] (defScope s_reads_from) := ⟨rfl, rfl, rfl, by decide +kernel, rfl, by decide +kernel, by decide +kernel⟩
-- slots: 0 system, 1 cell, 2 name, 3 point
def cellD (c : Str × List Int) : PyData := .tuple [.str c.1, .tuple (c.2.map .int)]
/-- the cells inside that a point reads -/
def inner (rs : List Rd1) (p : List Int) : List (Str × List Int) := rs.filterMap fun r => if (minus p r.v).all (fun i => decide (0 ≤ i)) = true then some (r.t, minus p r.v) else none
theorem inner_take {rs : List Rd1} {p : List Int} {i : Nat} {r : Rd1} (h : rs[i]? = some r) : inner (rs.take (i + 1)) p = inner (rs.take i) p ++ (if (minus p r.v).all (fun i => decide (0 ≤ i)) = true then [(r.t, minus p r.v)] else []) := by
  unfold inner
  rw [List.take_add_one, h, List.filterMap_append]
  congr 1
  show ([r].filterMap _) = _
  rw [List.filterMap_cons]
  split
  · rename_i e
    split at e
    · cases e
    · rw [if_neg (by assumption)]
      rfl
  · rename_i e
    split at e
    · cases e
      rw [if_pos (by assumption)]
      rfl
    · cases e
theorem inner_len (rs : List Rd1) (p : List Int) : (inner rs p).length ≤ rs.length := List.length_filterMap_le _ _
section
variable {P : Program} {w : World} {K : PySem.W.Frag} {mg : Str → Option Value} {base : Heap}
/-- place - step, if it is inside -/
def okBack (p v : List Int) : Bool := (minus p v).all fun i => decide (0 ≤ i)
def spBack (K : PySem.W.Frag) : Sp := fun vs H Q _ => ∃ (pa va : Addr) (p v : List Int), vs = [.ref pa, .ref va] ∧ SqT K H pa (p.map .int) ∧ SqT K H va (v.map .int) ∧ v.length = p.length ∧ 1 ≤ p.length ∧ p.length ≤ 1000 ∧
  ∀ t H', H t = none → Same H H' → H' t = some (.tup ((minus p v).map .int)) → (okBack p v = true → Q (.ref t) H') ∧ (okBack p v = false → Q .non H')
theorem ok_back {f : Addr} {fd : FuncData} (F : Fun K "step_back" "step_back" s_step_back f fd) (T : Txt mg) : FnOk P w K mg base CX0 1 f fd ["point", "vector"] (spBack K) := by
  refine F.ok sc_step_back (fun vs H Q E h => ?_) (fun cdv A outer sh H vs Q E hr h => ?_)
  · obtain ⟨pa, va, p, v, rfl, _⟩ := h
    rfl
  · obtain ⟨pa, va, p, v, rfl, hp, hv, hl, h1, h1000, q⟩ := h
    refine ⟨_, (pss_cons (ps_set (i := 2) sc_step_back.nd rfl (by first | exact Or.inl rfl | exact Or.inr rfl) (pe_callTy call_tuple_of (by rfl) T.b_tuple (by decide +kernel) (pa_cons (pe_lc (own := [("start", 3), ("step", 4)]) (g := gTup K 2 (gCons (gName 3) (gCons (gName 4) gNil))) (tt := tYes) (by rfl) sc_step_back.nd (RZ.pi_zipA (by rfl) T.b_zip (pa_cons (pv 0) (pa_cons (pv 1) pa_nil))) (blkOk_by (N := ["point", "vector", "place", "start", "step"]) (sc := defScope s_step_back) (by decide +kernel)) (fun _ _ _ _ _ => (pg_tup rfl (pgs_cons (pg_name (i := 3) sc_step_back.nd rfl (by first | exact Or.inl rfl | exact Or.inr rfl)) (pgs_cons (pg_name (i := 4) sc_step_back.nd rfl (by first | exact Or.inl rfl | exact Or.inr rfl)) pgs_nil)))) (fun _ _ _ _ _ => pts_nil) (fun _ _ _ _ _ => (pe_op op_sub (pv 3) (pv 4)))) pa_nil)))
  (pss_cons (ps_if (pt_cmpR op_lt (pe_callB (cr_minT rfl) (by rfl) T.b_min (by decide +kernel) (pa_cons (pv 2) pa_nil)) pe_int (nomark _))
    (pss_one (ps_ret pe_non))
    pss_nil)
  (pss_one (ps_ret (pv 2))))), ?_⟩
    have hmin : min (p.map V.int).length (v.map V.int).length = min p.length v.length := by rw [List.length_map, List.length_map]
    refine ⟨_, rfl, _, rfl, pa, va, p.map V.int, v.map V.int, rfl, Or.inr ⟨hp, hv, fun D hD => lc_flat (walk_zipT (K := K) (a := pa) (b := va) (xs := p.map V.int) (ys := v.map V.int) hmin.symm) (fun j => .int ((minus p v).getD j 0)) (by omega) hD (fun H' sm => ⟨sqt sm hp, sqt sm hv⟩) (fun i H x H' y => ypair_same y) ?_ ?_⟩⟩
    · rintro j z Ha Hb hj sm ⟨Tp, z1, z2, rfl, hT, rfl, f1, f2⟩ R hR
      have f1' : (p.map V.int)[j]? = some z1 := f1
      have f2' : (v.map V.int)[j]? = some z2 := f2
      rw [List.getElem?_map] at f1' f2'
      obtain ⟨c1, g1, rfl⟩ := Option.map_eq_some_iff.mp f1'
      obtain ⟨c2, g2, rfl⟩ := Option.map_eq_some_iff.mp f2'
      have em := minus_at g1 g2
      refine ⟨Tp, _, rfl, Or.inl (Or.inl upd_same), rfl, _, _, rfl, _, _, rfl, rfl, rfl, _, rfl, _, rfl, c1, c2, rfl, rfl, ?_⟩
      have r' := hR _ same_refl
      rw [em] at r'
      exact r'
    · intro H4 s4 hD4
      rw [minus_range] at hD4
      refine ⟨D, _, rfl, Or.inl ⟨Or.inl (Or.inl hD4), fun t ht => ?_⟩⟩
      have hml : (minus p v).length = p.length := by
        unfold minus
        rw [List.length_zipWith]
        omega
      have s5 : Same H (upd H4 t (.tup ((minus p v).map V.int))) := same_tr s4 (snew ht)
      obtain ⟨q1, q2⟩ := q t _ (free_of s4 ht) s5 upd_same
      refine ⟨_, rfl, t, minus p v, rfl, Or.inl (Or.inl upd_same), by omega, fun mn hm hle => ⟨mn, 0, rfl, rfl, decide (mn < 0), rfl, ?_⟩⟩
      have hall : okBack p v = decide (0 ≤ mn) := by
        unfold okBack
        by_cases h : 0 ≤ mn
        · rw [decide_eq_true h, List.all_eq_true]
          intro z hz
          have := hle z hz
          exact decide_eq_true (by omega)
        · rw [decide_eq_false h, List.all_eq_false]
          exact ⟨mn, hm, by simpa using h⟩
      refine ite2 (fun h => ?_) (fun h => ?_)
      · have h := of_decide_eq_true h
        exact q2 (by rw [hall]; exact decide_eq_false (by omega))
      · have h : ¬ mn < 0 := fun z => h (decide_eq_true z)
        exact ⟨_, rfl, q1 (by rw [hall]; exact decide_eq_true (by omega))⟩
def spCRead (K : PySem.W.Frag) : Sp := fun vs H Q _ => ∃ (l pa : Addr) (rs : List Rd1) (p : List Int), vs = [.ref l, .ref pa] ∧ (∃ ys, H l = some (.lst ys) ∧ DpAll K H ys (rs.map Rd1.d)) ∧ SqT K H pa (p.map .int) ∧ 1 ≤ p.length ∧ p.length ≤ 3 ∧ (∀ r ∈ rs, r.v.length = p.length) ∧ rs.length ≤ 1000 ∧
  ∀ q H' xs, H q = none → Same H H' → H' q = some (.lst xs) → DpAll K H' xs ((inner rs p).map cellD) → Q (.ref q) H'
theorem ok_cread {f : Addr} {fd : FuncData} (F : Fun K "cells_read" "cells_read" s_cells_read f fd) (T : Txt mg) (c_step_back : C8.Cal P w K mg base 1 "step_back" (spBack K) []) : FnOk P w K mg base CX0 2 f fd ["reads", "point"] (spCRead K) := by
  refine F.ok sc_cells_read (fun vs H Q E h => ?_) (fun cdv A outer sh H vs Q E hr h => ?_)
  · obtain ⟨l, pa, rs, p, rfl, _⟩ := h
    rfl
  · obtain ⟨l, pa, rs, p, rfl, ⟨ys, hl2, hys⟩, hpt, hp1, hp3, hlv, hl1000, q⟩ := h
    refine ⟨_, (pss_cons (ps_set (i := 2) sc_cells_read.nd rfl (by first | exact Or.inl rfl | exact Or.inr rfl) (pe_lst pa_nil))
  (pss_cons (ps_for PassesOwn.never rfl (pi_list (pv 0)) (pg_tup rfl (pgs_cons (pg_name (i := 3) sc_cells_read.nd rfl (by first | exact Or.inl rfl | exact Or.inr rfl)) (pgs_cons (pg_name (i := 4) sc_cells_read.nd rfl (by first | exact Or.inl rfl | exact Or.inr rfl)) (pgs_cons (pg_name (i := 5) sc_cells_read.nd rfl (by first | exact Or.inl rfl | exact Or.inr rfl)) pgs_nil))))
    (pss_cons (ps_set (i := 6) sc_cells_read.nd rfl (by first | exact Or.inl rfl | exact Or.inr rfl) (C8.pe_c c_step_back hr (by decide) (by rfl) (pa_cons (pv 1) (pa_cons (pv 4) pa_nil))))
    (pss_one (ps_if (pt_cmpR op_notN (pv 6) pe_non (nomark _))
      (pss_one (ps_expr (pe_bm PySem.F.plainAttrs_list PySem.F.slot_list_append PySem.F.type_list_append mt_append (pv 2) (pa_cons (pe_tup (pa_cons (pv 3) (pa_cons (pv 6) pa_nil))) pa_nil))))
      pss_nil))))
  (pss_one (ps_ret (pv 2))))), ?_⟩
    have hyl : ys.length = rs.length := by rw [dps_len hys, List.length_map]
    refine ⟨Nat.zero_le _, fun fo hfo => ?_⟩
    have nl : l ≠ fo := ne_of_none hl2 hfo
    refine ⟨_, rfl, l, rfl, ⟨ys, Or.inl (Or.inl (snew hfo _ _ hl2))⟩, for_it (walk_list (K := K) (a := l) (xs := ys)) (fun i σ H' => ∃ y3 y4 y5 y6, σ = [some (.ref l), some (.ref pa), some (.ref fo), y3, y4, y5, y6] ∧
        ∃ (B : Hp) (xs : List V), Same H B ∧ B fo = none ∧ Same B H' ∧ H' fo = some (.lst xs) ∧ DpAll K B xs ((inner (rs.take i) p).map cellD))
      ⟨none, none, none, none, rfl, H, [], same_refl, hfo, snew hfo, upd_same, .nil⟩
      (fun i σ H' _ ⟨_, _, _, _, _, B, xs, b1, _, b4, _⟩ => Or.inl (Or.inl (b4 _ _ (b1 _ _ hl2)))) ?_ ?_⟩
    · rintro i y σ _ H3 hi ⟨y3, y4, y5, y6, rfl, B, xs, b1, b2, b4, b5, b6⟩ ⟨rfl, hy⟩
      obtain ⟨r, ra, rb, e1, rfl, _, e3, e4⟩ := rd_at (dpsm b1 _ _ hys) hy
      have hrv := hlv r (List.mem_of_getElem? e1)
      refine ⟨ra, _, rfl, sqt b4 e3, rfl, _, _, rfl, _, _, rfl, _, _, rfl, rfl, ?_⟩
      refine ⟨_, rfl, _, rfl, pa, rb, p, r.v, rfl, sqt b4 (sqt b1 hpt), sqt b4 e4, hrv, hp1, by omega, fun t H4 ht s4 ht4 => ?_⟩
      have htk := inner_take (p := p) e1
      have hxl : xs.length ≤ 1000 := by
        rw [dps_len b6, List.length_map]
        have := inner_len (rs.take i) p
        rw [List.length_take] at this
        omega
      have bt : B t = none := free_of b4 ht
      have nt : t ≠ fo := fun z => by
        rw [z, b5] at ht
        cases ht
      have fo4 := s4 _ _ b5
      have s5 : Same (upd B t (.tup ((minus p r.v).map V.int))) H4 := fun c o h => by
        by_cases hc : c = t
        · rw [hc, upd_same] at h
          rw [hc, ← h]
          exact ht4
        · rw [upd_ne hc] at h
          exact s4 _ _ (b4 _ _ h)
      have bt5 : Same B (upd B t (.tup ((minus p r.v).map V.int))) := snew bt
      refine ⟨fun hok => ?_, fun hno => ?_⟩
      · have hok' : ((minus p r.v).all fun i => decide (0 ≤ i)) = true := hok
        rw [hok', if_pos rfl] at htk
        refine ⟨_, rfl, rfl, true, (by rw [decide_eq_false (fun z => by cases z)]; rfl), iteT ?_⟩
        refine ⟨_, rfl, Or.inl ⟨rfl, _, Or.inl (Or.inl fo4)⟩, _, rfl, _, rfl, (by show 2 ≤ sizeLine; decide), fun u hu => ?_⟩
        have nu : u ≠ fo := fun z => by
          rw [z, fo4] at hu
          cases hu
        have bu := free_of s5 hu
        have s6 : Same (upd (upd B t (.tup ((minus p r.v).map V.int))) u (.tup [.str r.t, .ref t])) (upd H4 u (.tup [.str r.t, .ref t])) := sgrow s5
        have bfo : (upd (upd B t (.tup ((minus p r.v).map V.int))) u (.tup [.str r.t, .ref t])) fo = none := by
          rw [upd_ne nu.symm, upd_ne nt.symm]
          exact b2
        refine ⟨fo, xs, _, rfl, rfl, by rw [upd_ne nu.symm]; exact fo4, small1000 hxl, ?_⟩
        have bu6 : Same B (upd (upd B t (.tup ((minus p r.v).map V.int))) u (.tup [.str r.t, .ref t])) := same_tr bt5 (snew bu)
        refine ⟨some (.str r.t), some (.ref rb), some (.int r.f), some (.ref t), rfl, _, xs ++ [.ref u], same_tr b1 bu6, bfo, swrite s6 bfo, upd_same, ?_⟩
        rw [htk, List.map_append]
        refine dps_snoc (dpsm bu6 _ _ b6) (.tup (Or.inl (Or.inl upd_same)) (.cons (.str _) (.cons (.tup (Or.inl (Or.inl ?_)) (ints_dps _)) .nil)))
        rw [upd_ne (ne_of_none upd_same bu)]
        exact upd_same
      · have hno' : ((minus p r.v).all fun i => decide (0 ≤ i)) = false := hno
        rw [hno', if_neg Bool.false_ne_true, List.append_nil] at htk
        refine ⟨_, rfl, rfl, false, (by rw [decide_eq_true rfl]; rfl), iteF ?_⟩
        refine ⟨some (.str r.t), some (.ref rb), some (.int r.f), some .non, rfl, upd B t (.tup ((minus p r.v).map V.int)), xs, same_tr b1 bt5, ?_, s5, fo4, ?_⟩
        · rw [upd_ne nt.symm]
          exact b2
        · rw [htk]
          exact dpsm bt5 _ _ b6
    · rintro σ H3 ⟨y3, y4, y5, y6, rfl, B, xs, b1, b2, b4, b5, b6⟩
      rw [hyl, List.take_length] at b6
      exact ⟨_, rfl, q fo H3 xs hfo (same_tr b1 b4) b5 (dpsm b4 _ _ b6)⟩
def spFrom (K : PySem.W.Frag) (C : Addr) : Sp := fun vs H Q _ => ∃ (s : Addr) (d m : Int) (ts : List Tb) (v : V) (x : Str) (p : List Int) (tb : Tb), vs = [.ref s, v] ∧ SysAt K C H s d m ts ∧ Dp K H v (.tuple [.str x, .tuple (p.map .int)]) ∧ x ∈ ts.map (·.n) ∧
  ts.find? (fun t => decide (t.n = x)) = some tb ∧ okPoint d p = true ∧ 1 ≤ d ∧ d ≤ 3 ∧ (∀ r ∈ tb.rs, (r.v.length : Int) = d) ∧ tb.rs.length ≤ 1000 ∧
  ∀ q H' xs, H q = none → Same H H' → H' q = some (.lst xs) → DpAll K H' xs ((inner tb.rs p).map cellD) → Q (.ref q) H'
theorem ok_reads_from {f C : Addr} {fd : FuncData} (F : Fun K "reads_from" "reads_from" s_reads_from f fd) (T : Txt mg) (TC : TxtC K mg C) (c_check_cell : C8.Cal P w K mg base 4 "check_cell" (spCheckCell K C) []) (t_reads : C8.Met P w K mg base 4 C "reads" (spReads K C) [])
    (c_cells_read : C8.Cal P w K mg base 2 "cells_read" (spCRead K) []) : FnOk P w K mg base CX0 5 f fd ["system", "cell"] (spFrom K C) := by
  refine F.ok sc_reads_from (fun vs H Q E h => ?_) (fun cdv A outer sh H vs Q E hr h => ?_)
  · obtain ⟨s, d, m, ts, v, x, p, tb, rfl, _⟩ := h
    rfl
  · obtain ⟨s, d, m, ts, v, x, p, tb, rfl, S, hv, hx, hf, hp, hd1, hd3, hlv, hl1000, q⟩ := h
    refine ⟨_, (pss_cons (ps_expr (C8.pe_c c_check_cell hr (by decide) (by rfl) (pa_cons (pv 0) (pa_cons (pv 1) pa_nil))))
  (pss_cons (ps_asg (pv 1) (pg_tup rfl (pgs_cons (pg_name (i := 2) sc_reads_from.nd rfl (by first | exact Or.inl rfl | exact Or.inr rfl)) (pgs_cons (pg_name (i := 3) sc_reads_from.nd rfl (by first | exact Or.inl rfl | exact Or.inr rfl)) pgs_nil))))
  (pss_one (ps_ret (C8.pe_c c_cells_read hr (by decide) (by rfl) (pa_cons (C8.pe_mt t_reads hr (by decide) (pv 0) (pa_cons (pv 2) pa_nil)) (pa_cons (pv 3) pa_nil))))))), ?_⟩
    have hpl : (p.length : Int) = d := by
      unfold okPoint at hp
      rw [Bool.and_eq_true] at hp
      exact of_decide_eq_true hp.1
    -- check_cell
    refine ⟨_, rfl, _, rfl, s, d, m, ts, v, x, p, rfl, S, hv, hx, by omega, hp, fun H0 s0 => ?_⟩
    -- name, point = cell
    obtain ⟨a, xs, rfl, ht, hd⟩ := dtup (dpm s0 _ _ hv)
    obtain ⟨x1, x2, rfl, h1, h2⟩ := dps2 hd
    obtain rfl := dstr h1
    obtain ⟨pa, ps, rfl, hpt, hpd⟩ := dtup h2
    obtain rfl := dps_ints hpd
    have S0 := S.mono s0
    refine ⟨_, rfl, a, _, rfl, ht, rfl, _, _, rfl, _, _, rfl, rfl, ?_⟩
    obtain ⟨dx, tt, kvs, o1, o2, o3⟩ := id S0.ob
    -- system.reads(name)
    refine ⟨_, rfl, s, dx, _, rfl, o1, flds_no _ _ _ (by decide +kernel) (by decide +kernel) (by decide +kernel), _, rfl, H0, s, d, m, ts, x, tb, rfl, same_refl, S0, hx, hf, fun l H2 ys hl s2 hl2 hys => ?_⟩
    refine ⟨_, rfl, l, pa, tb.rs, p, rfl, ⟨ys, hl2, dpsm s2 _ _ hys⟩, sqt s2 hpt, by omega, by omega, fun r hr => by have := hlv r hr; omega, hl1000, fun u H3 xs hu s3 h3 h4 => ?_⟩
    exact q u H3 xs (free_of s0 (free_of s2 hu)) (same_tr s0 (same_tr s2 s3)) h3 h4
end
end Fr

namespace Fr
open PySem PySem.Spec PyProof.Rows L2
abbrev s_Lrng : Stmt := topS 33
theorem sc_Lrng : FnScope ["_law_script", "_law_digits", "_law_seed", "_law_number", "_law_far"] ["_law_script"] (defScope s_Lrng) := ⟨rfl, rfl, rfl, by decide +kernel, rfl, by decide +kernel, by decide +kernel⟩
-- slots: 0 _law_script, 1 _law_digits, 2 _law_seed, 3 _law_number, 4 _law_far
abbrev s_Ldraw : Stmt := topS 34
theorem sc_Ldraw : FnScope ["_law_rng_here", "_law_limit", "_law_digit", "_law_blend"] ["_law_rng_here", "_law_limit"] (defScope s_Ldraw) := ⟨rfl, rfl, rfl, by decide +kernel, rfl, by decide +kernel, by decide +kernel⟩
-- slots: 0 _law_rng_here, 1 _law_limit, 2 _law_digit, 3 _law_blend
abbrev s_Lmixed : Stmt := topS 35
theorem sc_Lmixed : FnScope ["_law_rng_here", "_law_some", "_law_left", "_law_turned"] ["_law_rng_here", "_law_some"] (defScope s_Lmixed) := ⟨rfl, rfl, rfl, by decide +kernel, rfl, by decide +kernel, by decide +kernel⟩
-- slots: 0 _law_rng_here, 1 _law_some, 2 _law_left, 3 _law_turned
abbrev s_Lvector : Stmt := topS 36
theorem sc_Lvector : FnScope ["_law_rng_here", "_law_dims", "_law_wide", "_law_some", "_law_axis"] ["_law_rng_here", "_law_dims", "_law_wide"] (defScope s_Lvector) := ⟨rfl, rfl, rfl, by decide +kernel, rfl, by decide +kernel, by decide +kernel⟩
-- slots: 0 _law_rng_here, 1 _law_dims, 2 _law_wide, 3 _law_some, 4 _law_axis
/-- the state of the draws: digits, seed, counter -/
structure RngN (a b c : Int) (m : Nat) : Prop where
  a0 : 0 ≤ a
  a1 : a.natAbs < 2 ^ 20000
  b0 : 0 ≤ b
  b1 : b < 2 ^ 62
  c0 : 0 ≤ c
  c1 : c ≤ m
def RngOk (H : Hp) (r : Addr) (m : Nat) : Prop := ∃ a b c : Int, H r = some (.lst [.int a, .int b, .int c]) ∧ RngN a b c m
theorem RngN.mono {a b c : Int} {m m' : Nat} (h : RngN a b c m) (e : m ≤ m') : RngN a b c m' := ⟨h.a0, h.a1, h.b0, h.b1, h.c0, by have := h.c1; omega⟩
theorem RngOk.mono {H : Hp} {r : Addr} {m m' : Nat} (h : RngOk H r m) (e : m ≤ m') : RngOk H r m' := by
  obtain ⟨a, b, c, h1, h2⟩ := h
  exact ⟨a, b, c, h1, h2.mono e⟩
theorem cut_all (xs : List V) (i : Nat) (h : xs.length ≤ i) : cutV xs none (some (i : Int)) = xs := by
  unfold cutV
  rw [show HT.sIx xs.length xs.length (some (i : Int)) = min i xs.length from HT.sIx_nat xs.length xs.length i, HT.sIx_none, List.drop_zero, Nat.sub_zero, Nat.min_eq_right h, List.take_length]
theorem p1060 : ((10 : Int) ^ ((60 : Int).toNat)).natAbs < 2 ^ 200 := by decide +kernel
theorem p1060' : ((10 : Int) ^ ((60 : Int).toNat)) < 2 ^ 200 := by decide +kernel
theorem pos1 : (0 : Int) < 2305843009213693921 := by decide
theorem pos2 : (0 : Int) < 2305843009213693951 := by decide
theorem p1060p : 0 < ((10 : Int) ^ ((60 : Int).toNat)) := by decide +kernel
section
variable {P : Program} {w : World} {K : PySem.W.Frag} {mg : Str → Option Value} {base : Heap}
def spRng (K : PySem.W.Frag) : Sp := fun vs H Q _ => ∃ (a : Addr) (ns : List Int), vs = [.ref a] ∧ SqL K H a (ns.map V.int) ∧ ns.length ≤ 63 ∧ ∀ p H', H p = none → Same H H' → RngOk H' p 0 → Q (.ref p) H'
theorem dig_step {dg f t : Int} {i : Nat} (h0 : 0 ≤ dg) (h1 : dg < 2 ^ (200 * i)) (hp : 0 < t) (ht : t < 2 ^ 200) : 0 ≤ dg * t + f % t ∧ dg * t + f % t < 2 ^ (200 * (i + 1)) := by
  have e0 := Int.emod_nonneg f (Int.ne_of_gt hp)
  have e1 := Int.emod_lt_of_pos f hp
  have e2 : 0 ≤ dg * t := Int.mul_nonneg h0 (Int.le_of_lt hp)
  refine ⟨by omega, ?_⟩
  have e3 : dg * t + f % t < (dg + 1) * t := by
    rw [Int.add_mul, Int.one_mul]
    omega
  have e4 : (dg + 1) * t ≤ 2 ^ (200 * i) * 2 ^ 200 := Int.mul_le_mul h1 (Int.le_of_lt ht) (Int.le_of_lt hp) (Int.pow_nonneg (by decide))
  have e5 : (2 : Int) ^ (200 * (i + 1)) = 2 ^ (200 * i) * 2 ^ 200 := by
    rw [← Int.pow_add]
    congr 1
  rw [e5]
  exact Int.lt_of_lt_of_le e3 e4
theorem nat_lt_of {x : Int} {n : Nat} (h0 : 0 ≤ x) (h : x < 2 ^ n) : x.natAbs < 2 ^ n := by
  have e : (x.natAbs : Int) = x := Int.natAbs_of_nonneg h0
  have h' : (x.natAbs : Int) < ((2 ^ n : Nat) : Int) := by
    rw [e]
    push_cast
    exact h
  exact Int.ofNat_lt.mp h'
theorem dig_mono {x : Int} {i j : Nat} (h : x < 2 ^ (200 * i)) (e : i ≤ j) : x < 2 ^ (200 * j) := by
  refine Int.lt_of_lt_of_le h ?_
  have z : (2 : Nat) ^ (200 * i) ≤ 2 ^ (200 * j) := Nat.pow_le_pow_right (by decide) (by omega)
  have z' : ((2 ^ (200 * i) : Nat) : Int) ≤ ((2 ^ (200 * j) : Nat) : Int) := Int.ofNat_le.mpr z
  push_cast at z'
  exact z'
theorem ok_rng {f : Addr} {fd : FuncData} (F : Fun K "_law_rng" "_law_rng" s_Lrng f fd) (T : Txt mg) : FnOk P w K mg base CX0 1 f fd ["_law_script"] (spRng K) := by
  refine F.ok sc_Lrng (fun vs H Q E h => ?_) (fun cdv A outer sh H vs Q E hr h => ?_)
  · obtain ⟨a, ns, rfl, _⟩ := h
    rfl
  · obtain ⟨a, ns, rfl, ha, hl, q⟩ := h
    refine ⟨_, (pss_cons (ps_asg (pe_tup (pa_cons pe_int (pa_cons pe_int pa_nil))) (pg_tup rfl (pgs_cons (pg_name (i := 1) sc_Lrng.nd rfl (by first | exact Or.inl rfl | exact Or.inr rfl)) (pgs_cons (pg_name (i := 2) sc_Lrng.nd rfl (by first | exact Or.inl rfl | exact Or.inr rfl)) pgs_nil))))
  (pss_cons (ps_for PassesOwn.never rfl (pi_list (pe_slice sl_list (pv 0) po_none (po_some pe_int))) (pg_name (i := 3) sc_Lrng.nd rfl (by first | exact Or.inl rfl | exact Or.inr rfl))
    (pss_cons (ps_set (i := 4) sc_Lrng.nd rfl (by first | exact Or.inl rfl | exact Or.inr rfl) (pe_callB call_abs (by rfl) T.b_abs (by decide +kernel) (pa_cons (pv 3) pa_nil)))
    (pss_cons (ps_if (pt_cmpR op_ge (pv 4) (pe_op op_pow pe_int pe_int) (nomark _))
      (pss_one (ps_set (i := 1) sc_Lrng.nd rfl (by first | exact Or.inl rfl | exact Or.inr rfl) (pe_op op_add (pe_op op_mulW (pv 1) (pe_op op_pow pe_int pe_int)) (pe_op op_mod (pe_callTy call_int1 (by rfl) T.b_int (by decide +kernel) (pa_cons (pv 4) pa_nil)) (pe_op op_pow pe_int pe_int)))))
      pss_nil)
    (pss_one (ps_set (i := 2) sc_Lrng.nd rfl (by first | exact Or.inl rfl | exact Or.inr rfl) (pe_op op_mod (pe_callTy call_int1 (by rfl) T.b_int (by decide +kernel) (pa_cons (pe_op op_add (pe_op op_add (pe_op op_mulW (pv 2) pe_int) (pe_op op_mod (pe_callTy call_int1 (by rfl) T.b_int (by decide +kernel) (pa_cons (pv 3) pa_nil)) pe_int)) pe_int) pa_nil)) pe_int))))))
  (pss_one (ps_ret (pe_lst (pa_cons (pv 1) (pa_cons (pv 2) (pa_cons pe_int pa_nil)))))))), ?_⟩
    refine ⟨(by show 2 ≤ sizeLine; decide), fun p0 hp0 => ⟨p0, _, rfl, Or.inl (Or.inl upd_same), rfl, _, _, rfl, _, _, rfl, rfl, ?_⟩⟩
    have s0 : Same H (upd H p0 (.tup [.int 0, .int 88675123])) := snew hp0
    have ha := sql s0 ha
    generalize upd H p0 (.tup [.int 0, .int 88675123]) = H0 at s0 ha ⊢
    refine ⟨_, rfl, 63, rfl, a, _, rfl, ha, fun p hp => ?_⟩
    have hc : cutV (ns.map V.int) none (some 63) = ns.map V.int := cut_all _ 63 (by rw [List.length_map]; exact hl)
    rw [hc]
    have s1 : Same H (upd H0 p (.lst (ns.map V.int))) := same_tr s0 (snew hp)
    have hp1 : (upd H0 p (.lst (ns.map V.int))) p = some (.lst (ns.map V.int)) := upd_same
    generalize upd H0 p (.lst (ns.map V.int)) = H1 at s1 hp1 ⊢
    refine ⟨p, rfl, ⟨_, Or.inl (Or.inl hp1)⟩, for_it (walk_list (K := K) (a := p) (xs := ns.map V.int)) (fun i σ H' => ∃ dg sd y3 y4, σ = [some (.ref a), some (.int dg), some (.int sd), y3, y4] ∧ 0 ≤ dg ∧ dg < 2 ^ (200 * i) ∧ 0 ≤ sd ∧ sd < 2 ^ 62 ∧ H' = H1)
      ⟨0, 88675123, none, none, rfl, by decide, by decide, by decide, by decide, rfl⟩ (fun i σ H' _ ⟨_, _, _, _, _, _, _, _, _, e⟩ => by rw [e]; exact Or.inl (Or.inl hp1)) ?_ ?_⟩
    · rintro i y σ _ H2 hi ⟨dg, sd, y3, y4, rfl, d0, d1, sd0, sd1, rfl⟩ ⟨rfl, hy⟩
      rw [List.getElem?_map] at hy
      obtain ⟨n, hn, rfl⟩ := Option.map_eq_some_iff.mp hy
      rw [List.length_map] at hi
      refine ⟨_, rfl, n, rfl, ?_⟩
      refine ⟨_, rfl, 10, 18, rfl, rfl, ⟨by decide, by decide, by decide⟩, _, _, rfl, rfl, _, rfl, ?_⟩
      have wsd : (sd : Int).natAbs < 2 ^ 100000 := nat_lt_of (n := 100000) sd0 (Int.lt_trans sd1 (by decide +kernel))
      refine ite2 (fun hq => ?_) (fun hq => ?_)
      · have wdg : dg.natAbs < 2 ^ 20000 := nat_lt_of (n := 20000) d0 (dig_mono d1 (show i ≤ 100 by omega))
        refine ⟨_, rfl, 10, 60, rfl, rfl, ⟨by decide, by decide, by decide⟩, dg, _, rfl, rfl, wide_mul (a := 20000) (b := 200) wdg p1060 (by decide) (by decide) (by decide), _, rfl, Or.inl ⟨_, rfl, 10, 60, rfl, rfl, ⟨by decide, by decide, by decide⟩, _, _, rfl, rfl, p1060p, _, _, rfl, rfl, ?_⟩⟩
        obtain ⟨e1, e2⟩ := dig_step (f := if n < 0 then -n else n) d0 d1 p1060p p1060'
        refine ⟨_, rfl, sd, 1000003, rfl, rfl, wide_mul (a := 100000) (b := 100) wsd (by decide) (by decide) (by decide) (by decide), _, rfl, Or.inl ⟨n, rfl, n, _, rfl, rfl, pos1, _, _, rfl, rfl, _, _, rfl, rfl, Or.inl ⟨_, rfl, _, _, rfl, rfl, pos2, ?_⟩⟩⟩
        exact ⟨_, _, _, _, rfl, e1, e2, Int.emod_nonneg _ (by decide), Int.lt_trans (Int.emod_lt_of_pos _ (by decide)) (by decide), rfl⟩
      · refine ⟨_, rfl, sd, 1000003, rfl, rfl, wide_mul (a := 100000) (b := 100) wsd (by decide) (by decide) (by decide) (by decide), _, rfl, Or.inl ⟨n, rfl, n, _, rfl, rfl, pos1, _, _, rfl, rfl, _, _, rfl, rfl, Or.inl ⟨_, rfl, _, _, rfl, rfl, pos2, ?_⟩⟩⟩
        exact ⟨_, _, _, _, rfl, d0, dig_mono d1 (by omega), Int.emod_nonneg _ (by decide), Int.lt_trans (Int.emod_lt_of_pos _ (by decide)) (by decide), rfl⟩
    · rintro σ H2 ⟨dg, sd, y3, y4, rfl, d0, d1, sd0, sd1, rfl⟩
      rw [List.length_map] at d1
      refine ⟨_, rfl, _, rfl, (by show 3 ≤ sizeLine; decide), fun r hr' => ?_⟩
      refine q r _ (free_of s1 hr') (same_tr s1 (snew hr')) ⟨dg, sd, 0, upd_same, d0, ?_, sd0, sd1, by decide, by decide⟩
      have := dig_mono d1 (show ns.length ≤ 100 by omega)
      exact nat_lt_of (n := 20000) d0 this
/-- only the state of the draws changed -/
structure Dr (r : Addr) (m : Nat) (H H' : Hp) : Prop where
  ne : ∀ b, b ≠ r → H' b = H b
  ok : RngOk H' r m
structure RS (r : Addr) (m : Nat) (B H : Hp) : Prop where
  s : Same B H
  n : B r = none
  ok : RngOk H r m
theorem RS.dr {r : Addr} {m m' : Nat} {B H H' : Hp} (h : RS r m B H) (d : Dr r m' H H') : RS r m' B H' := ⟨fun b o e => by
  rw [d.ne b (ne_of_none e h.n)]
  exact h.s b o e, h.n, d.ok⟩
theorem RngOk.at {r : Addr} {m : Nat} {H H' : Hp} (h : RngOk H r m) (e : H' r = H r) : RngOk H' r m := by
  obtain ⟨a, b, c, h1, h2⟩ := h
  exact ⟨a, b, c, by rw [e, h1], h2⟩
theorem RngOk.some {r : Addr} {m : Nat} {H : Hp} (h : RngOk H r m) : ∃ o, H r = some o := by
  obtain ⟨a, b, c, h1, h2⟩ := h
  exact ⟨_, h1⟩
theorem RngOk.new {r p : Addr} {m : Nat} {H : Hp} {o : HO} (h : RngOk H r m) (e : H p = none) : RngOk (upd H p o) r m := by
  obtain ⟨o', ho⟩ := h.some
  exact h.at (upd_ne (ne_of_none ho e))
theorem RS.new {r p : Addr} {m : Nat} {B H : Hp} {o : HO} (h : RS r m B H) (e : H p = none) : RS r m B (upd H p o) := ⟨same_tr h.s (snew e), h.n, h.ok.new e⟩
theorem RS.put {r p : Addr} {m : Nat} {B H : Hp} {o : HO} (h : RS r m B H) (e : B p = none) (n : r ≠ p) : RS r m B (upd H p o) := ⟨swrite h.s e, h.n, h.ok.at (upd_ne n)⟩
/-- a new thing that stays -/
theorem RS.keep {r p : Addr} {m : Nat} {B H : Hp} {o : HO} (h : RS r m B H) (e : H p = some o) (k : B p = none) (n : r ≠ p) : RS r m (upd B p o) H := ⟨fun b x q => by
  by_cases hb : b = p
  · rw [hb, upd_same] at q
    rw [hb, e, q]
  · rw [upd_ne hb] at q
    exact h.s b x q, by rw [upd_ne n]; exact h.n, h.ok⟩
theorem RS.ne {r p : Addr} {m : Nat} {B H : Hp} (h : RS r m B H) (e : H p = none) : r ≠ p := by
  obtain ⟨o', ho⟩ := h.ok.some
  exact ne_of_none ho e
theorem RS.mono {r : Addr} {m m' : Nat} {B H : Hp} (h : RS r m B H) (e : m ≤ m') : RS r m' B H := ⟨h.s, h.n, h.ok.mono e⟩
def spDraw : Sp := fun vs H Q _ => ∃ (r : Addr) (lim : Int) (m : Nat), vs = [.ref r, .int lim] ∧ RngOk H r m ∧ m ≤ 2 ^ 60 ∧ 0 < lim ∧ lim.natAbs < 2 ^ 200 ∧ ∀ d H', 0 ≤ d → d < lim → Dr r (m + 1) H H' → Q (.int d) H'
theorem pos3 : (0 : Int) < 162259276829213363391578010288127 := by decide
theorem pos4 : (0 : Int) < 170141183460469231731687303715884105727 := by decide
theorem pos5 : (0 : Int) < 1048576 := by decide
theorem ok_draw {f : Addr} {fd : FuncData} (F : Fun K "_law_draw" "_law_draw" s_Ldraw f fd) (T : Txt mg) : FnOk P w K mg base CX0 1 f fd ["_law_rng_here", "_law_limit"] spDraw := by
  refine F.ok sc_Ldraw (fun vs H Q E h => ?_) (fun cdv A outer sh H vs Q E hr h => ?_)
  · obtain ⟨r, lim, m, rfl, _⟩ := h
    rfl
  · obtain ⟨r, lim, m, rfl, ⟨a, b, c, hR, N⟩, hm, l0, l1, q⟩ := h
    refine ⟨_, (pss_cons (ps_if (pt_cmpR op_gt (pe_ix ix_list (pv 0) pe_int (fun _ _ => rfl)) pe_int (nomark _))
    (pss_cons (ps_set (i := 2) sc_Ldraw.nd rfl (by first | exact Or.inl rfl | exact Or.inr rfl) (pe_op op_mod (pe_callTy call_int1 (by rfl) T.b_int (by decide +kernel) (pa_cons (pe_ix ix_list (pv 0) pe_int (fun _ _ => rfl)) pa_nil)) (pv 1)))
    (pss_cons (ps_asg (pe_op op_fdivW (pe_ix ix_list (pv 0) pe_int (fun _ _ => rfl)) (pv 1)) (pg_sub (pv 0) pe_int set_list))
    (pss_one (ps_ret (pv 2)))))
    pss_nil)
  (pss_cons (ps_asg (pe_op op_add (pe_ix ix_list (pv 0) pe_int (fun _ _ => rfl)) pe_int) (pg_sub (pv 0) pe_int set_list))
  (pss_cons (ps_set (i := 3) sc_Ldraw.nd rfl (by first | exact Or.inl rfl | exact Or.inr rfl) (pe_op op_mod (pe_callTy call_int1 (by rfl) T.b_int (by decide +kernel) (pa_cons (pe_op op_powW (pe_op op_add (pe_ix ix_list (pv 0) pe_int (fun _ _ => rfl)) (pe_op op_mulW pe_int (pe_ix ix_list (pv 0) pe_int (fun _ _ => rfl)))) pe_int) pa_nil)) pe_int))
  (pss_cons (ps_set (i := 3) sc_Ldraw.nd rfl (by first | exact Or.inl rfl | exact Or.inr rfl) (pe_op op_mod (pe_callTy call_int1 (by rfl) T.b_int (by decide +kernel) (pa_cons (pe_op op_powW (pe_op op_add (pv 3) (pe_op op_mulW pe_int (pe_ix ix_list (pv 0) pe_int (fun _ _ => rfl)))) pe_int) pa_nil)) pe_int))
  (pss_one (ps_ret (pe_op op_mod (pe_callTy call_int1 (by rfl) T.b_int (by decide +kernel) (pa_cons (pe_op op_fdivW (pv 3) pe_int) pa_nil)) (pv 1)))))))), ?_⟩
    have sq : SqL K H r [.int a, .int b, .int c] := Or.inl (Or.inl hR)
    refine ⟨_, rfl, r, _, 0, _, rfl, rfl, sq, rfl, a, 0, rfl, rfl, decide (0 < a), rfl, ?_⟩
    refine ite2 (fun h0 => ?_) (fun h0 => ?_)
    · have h0 : 0 < a := of_decide_eq_true h0
      refine ⟨_, rfl, r, _, 0, _, rfl, rfl, sq, rfl, Or.inl ⟨a, rfl, _, rfl, a, lim, rfl, rfl, l0, ?_⟩⟩
      refine ⟨_, rfl, r, _, 0, _, rfl, rfl, sq, rfl, _, rfl, a, lim, rfl, rfl, wide_div l0 l1 (by decide) (by decide), ?_⟩
      · refine ⟨_, rfl, r, _, 0, 0, rfl, rfl, hR, rfl, ?_⟩
        refine ⟨_, rfl, q _ _ (Int.emod_nonneg _ (Int.ne_of_gt l0)) (Int.emod_lt_of_pos _ l0) ⟨fun x hx => upd_ne hx, _, b, c, upd_same, ?_⟩⟩
        refine ⟨Int.ediv_nonneg N.a0 (Int.le_of_lt l0), ?_, N.b0, N.b1, N.c0, by have := N.c1; omega⟩
        refine Nat.lt_of_le_of_lt ?_ N.a1
        have e1 := Int.ediv_le_self lim (a := a) N.a0
        have e0 := Int.ediv_nonneg N.a0 (Int.le_of_lt l0)
        omega
    · have hc : (c + 1).natAbs < 2 ^ 100 := by
        have h1 := N.c0
        have h2 := N.c1
        omega
      have hcc : c + 1 ≤ ((m + 1 : Nat) : Int) := by
        have h2 := N.c1
        omega
      refine ⟨_, rfl, r, _, 2, _, rfl, rfl, sq, rfl, c, 1, rfl, rfl, _, rfl, r, _, 2, 2, rfl, rfl, hR, rfl, ?_⟩
      have dr : Dr r (m + 1) H (upd H r (.lst [.int a, .int b, .int (c + 1)])) := ⟨fun x hx => upd_ne hx, a, b, c + 1, upd_same, ⟨N.a0, N.a1, N.b0, N.b1, by have := N.c0; omega, hcc⟩⟩
      have hR' : (upd H r (.lst [.int a, .int b, .int (c + 1)])) r = some (.lst [.int a, .int b, .int (c + 1)]) := upd_same
      have sq2 : SqL K (upd H r (.lst [.int a, .int b, .int (c + 1)])) r [.int a, .int b, .int (c + 1)] := Or.inl (Or.inl hR')
      have c0 := N.c0
      have b0 := N.b0
      have b1 := N.b1
      have hc9 : c + 1 < 2 ^ 100 := by omega
      have w1 : (b + 998244353 * (c + 1)).natAbs < 2 ^ 1000000 := Nat.lt_of_lt_of_le (m := 2 ^ 200) (by omega) (Nat.pow_le_pow_right (by decide) (by decide))
      refine ⟨_, rfl, r, _, 1, _, rfl, rfl, sq2, rfl, _, rfl, r, _, 2, _, rfl, rfl, sq2, rfl, _, _, rfl, rfl, wide_mul (a := 100) (b := 100) (by decide) hc (by decide) (by decide) (by decide), _, _, rfl, rfl, _, 3, rfl, rfl, ⟨by decide, by decide, w1⟩, Or.inl ⟨_, rfl, _, _, rfl, rfl, pos3, ?_⟩⟩
      have x0 := Int.emod_nonneg ((b + 998244353 * (c + 1)) ^ 3) (Int.ne_of_gt pos3)
      have x1 := Int.emod_lt_of_pos ((b + 998244353 * (c + 1)) ^ 3) pos3
      have w2 : ((b + 998244353 * (c + 1)) ^ 3 % 162259276829213363391578010288127 + 32452843 * (c + 1)).natAbs < 2 ^ 1000000 := Nat.lt_of_lt_of_le (m := 2 ^ 200) (by omega) (Nat.pow_le_pow_right (by decide) (by decide))
      refine ⟨_, rfl, _, rfl, r, _, 2, _, rfl, rfl, sq2, rfl, _, _, rfl, rfl, wide_mul (a := 100) (b := 100) (by decide) hc (by decide) (by decide) (by decide), _, _, rfl, rfl, _, 3, rfl, rfl, ⟨by decide, by decide, w2⟩, Or.inl ⟨_, rfl, _, _, rfl, rfl, pos4, ?_⟩⟩
      refine ⟨_, rfl, _, _, rfl, rfl, wide_div pos5 (b := 100) (by decide) (by decide) (by decide), Or.inl ⟨_, rfl, _, rfl, _, lim, rfl, rfl, l0, ?_⟩⟩
      exact q _ _ (Int.emod_nonneg _ (Int.ne_of_gt l0)) (Int.emod_lt_of_pos _ l0) dr
end
end Fr

namespace Fr
open PySem PySem.Spec PyProof.Rows L2
theorem atI_in {α : Type} {xs : List α} {i : Int} (h0 : 0 ≤ i) (h1 : i < xs.length) : ∃ v, atI xs i = some v ∧ v ∈ xs ∧ xs[i.toNat]? = some v := by
  have h2 : i.toNat < xs.length := by omega
  have e := List.getElem?_eq_getElem h2
  refine ⟨xs[i.toNat], ?_, List.getElem_mem h2, e⟩
  have := atI_nat e
  rw [Int.toNat_of_nonneg h0] at this
  exact this
/-- all but one place -/
def cutr (H : Hp) (r : Addr) : Hp := fun b => if b = r then none else H b
theorem cutr_ne {H : Hp} {r b : Addr} (h : b ≠ r) : cutr H r b = H b := if_neg h
theorem RS.cut {r : Addr} {m : Nat} {H : Hp} (h : RngOk H r m) : RS r m (cutr H r) H := ⟨fun b o e => by
  unfold cutr at e
  split at e
  · cases e
  · exact e, if_pos rfl, h⟩
section
variable {P : Program} {w : World} {K : PySem.W.Frag} {mg : Str → Option Value} {base : Heap}
def Good (d : PyData) : Prop := d.canLay0 = true ∧ d.depth ≤ 30
theorem goods : ∀ {ds : List PyData}, (∀ d ∈ ds, Good d) → PyData.canLayAll0 ds = true ∧ PyData.depthAll ds ≤ 30
  | [], _ => ⟨by simp [PyData.canLayAll0], by simp [PyData.depthAll]⟩
  | d :: ds, h => by
    obtain ⟨h1, h2⟩ := h d List.mem_cons_self
    obtain ⟨h3, h4⟩ := goods fun e he => h e (List.mem_cons_of_mem _ he)
    exact ⟨by simp [PyData.canLayAll0, h1, h3], by simp [PyData.depthAll]; omega⟩
theorem shaped_list {ds : List PyData} (h : ∀ d ∈ ds, Good d) : SeqAt.shaped (.list ds) = true := by
  obtain ⟨h1, h2⟩ := goods h
  unfold SeqAt.shaped
  rw [Bool.and_eq_true]
  refine ⟨by simpa [PyData.canLay0] using h1, decide_eq_true ?_⟩
  simp [PyData.depth]
  omega
theorem eqv_nil (ds : List PyData) : PyData.eqv (.list ds) (.list []) = ds.isEmpty := by
  cases ds <;> simp [PyData.eqv, PyData.eqvAll]
theorem dps_erase : ∀ {H : Hp} {ds : List PyData} {vs : List V} {k : Nat}, DpAll K H vs ds → DpAll K H (vs.eraseIdx k) (ds.eraseIdx k)
  | _, [], _, _, h => by cases h; exact .nil
  | _, d :: ds, _, 0, h => by
    cases h with
    | cons h1 h2 => exact h2
  | _, d :: ds, _, k + 1, h => by
    cases h with
    | cons h1 h2 => exact .cons h1 (dps_erase h2)
theorem perm_erase {α : Type} : ∀ {xs : List α} {k : Nat} {x : α}, xs[k]? = some x → List.Perm xs (x :: xs.eraseIdx k)
  | [], _, _, h => by cases h
  | y :: xs, 0, x, h => by cases h; exact .refl _
  | y :: xs, k + 1, x, h => by
    have := perm_erase (xs := xs) (k := k) (x := x) (by simpa using h)
    exact (this.cons y).trans (.swap _ _ _)
def spMixed (K : PySem.W.Frag) : Sp := fun vs H Q _ => ∃ (r l : Addr) (m : Nat) (B : Hp) (xs : List V) (ds : List PyData), vs = [.ref r, .ref l] ∧ RS r m B H ∧ SqL K B l xs ∧ DpAll K B xs ds ∧ (∀ d ∈ ds, Good d) ∧ ds.length ≤ 1000 ∧ m ≤ 2 ^ 59 ∧
  ∀ p H' ys es, B p = none → r ≠ p → List.Perm ds es → DpAll K B ys es → RS r (m + ds.length) (upd B p (.lst ys)) H' → Q (.ref p) H'
theorem ok_mixed {f : Addr} {fd : FuncData} (F : Fun K "_law_mixed" "_law_mixed" s_Lmixed f fd) (T : Txt mg) (c_Ldraw : C8.Cal P w K mg base 1 "_law_draw" spDraw []) : FnOk P w K mg base CX0 2 f fd ["_law_rng_here", "_law_some"] (spMixed K) := by
  refine F.ok sc_Lmixed (fun vs H Q E h => ?_) (fun cdv A outer sh H vs Q E hr h => ?_)
  · obtain ⟨r, l, m, B, xs, ds, rfl, _⟩ := h
    rfl
  · obtain ⟨r, l, m, B, xs, ds, rfl, R, hl, hd, hg, hlen, hm, q⟩ := h
    have hxl := dps_len hd
    refine ⟨_, (pss_cons (ps_par (i := 2) (j := 3) (by rfl) sc_Lmixed.nd rfl rfl (by decide) rfl rfl (pa_cons (pe_callTy call_list_of (by rfl) T.b_list (by decide +kernel) (pa_cons (pv 1) pa_nil)) (pa_cons (pe_lst pa_nil) pa_nil)) (by rfl))
  (pss_cons (ps_while PassesOwn.never (pt_cmpR (op_neD hr.units) (pv 2) (pe_lst pa_nil) (nomark _))
    (pss_one (ps_expr (pe_bm PySem.F.plainAttrs_list PySem.F.slot_list_append PySem.F.type_list_append mt_append (pv 3) (pa_cons (pe_bm PySem.F.plainAttrs_list PySem.F.slot_list_pop PySem.F.type_list_pop mt_popAt (pv 2) (pa_cons (C8.pe_c c_Ldraw hr (by decide) (by rfl) (pa_cons (pv 0) (pa_cons (pe_callB call_len_seq (by rfl) T.b_len PySem.boot_len (pa_cons (pv 2) pa_nil)) pa_nil))) pa_nil)) pa_nil)))))
  (pss_one (ps_ret (pv 3))))), ?_⟩
    refine ⟨_, rfl, l, xs, rfl, Or.inl (sql R.s hl), fun L hL => ?_⟩
    have R1 : RS r m B (upd H L (.lst xs)) := R.new hL
    have L1 : (upd H L (.lst xs)) L = some (.lst xs) := upd_same
    have bL : B L = none := free_of R.s hL
    have rL := R.ne hL
    generalize upd H L (.lst xs) = H1 at R1 L1 ⊢
    refine ⟨Nat.zero_le _, fun U hU => ⟨_, _, rfl, ?_⟩⟩
    have R2 : RS r m B (upd H1 U (.lst [])) := R1.new hU
    have U2 : (upd H1 U (.lst [])) U = some (.lst []) := upd_same
    have bU : B U = none := free_of R1.s hU
    have rU := R1.ne hU
    have LU : L ≠ U := ne_of_none L1 hU
    have L2 : (upd H1 U (.lst [])) L = some (.lst xs) := by rw [upd_ne LU]; exact L1
    generalize upd H1 U (.lst []) = H2 at R2 L2 U2 ⊢
    refine ⟨fun n σ H' => ∃ lv ld tv td, σ = [some (.ref r), some (.ref l), some (.ref L), some (.ref U)] ∧ H' L = some (.lst lv) ∧ H' U = some (.lst tv) ∧ DpAll K B lv ld ∧ DpAll K B tv td ∧ List.Perm ds (td ++ ld) ∧ n = ld.length ∧ RS r (m + td.length) B H',
      ⟨_, xs, ds, [], [], rfl, L2, U2, hd, .nil, .refl _, rfl, R2⟩, ?_⟩
    rintro n σ H3 ⟨lv, ld, tv, td, rfl, L3, U3, dl, dt, pm, rfl, R3⟩
    have hpl := pm.length_eq
    rw [List.length_append] at hpl
    have lvl := dps_len dl
    have tvl := dps_len dt
    have gl : ∀ d ∈ ld, Good d := fun d h => hg d (pm.mem_iff.mpr (List.mem_append.mpr (.inr h)))
    refine ⟨_, rfl, Nat.zero_le _, fun p hp => ⟨.list ld, .list [], .lst (Or.inl (Or.inl ?_)) (dpsm (same_tr R3.s (snew hp)) _ _ dl), .lst (Or.inl (Or.inl upd_same)) .nil, shaped_list gl, shaped_list (by intro d h; cases h), _, rfl, ?_⟩⟩
    · rw [upd_ne (ne_of_none L3 hp)]
      exact L3
    rw [eqv_nil]
    have L4 : (upd H3 p (.lst [])) L = some (.lst lv) := by rw [upd_ne (ne_of_none L3 hp)]; exact L3
    have U4 : (upd H3 p (.lst [])) U = some (.lst tv) := by rw [upd_ne (ne_of_none U3 hp)]; exact U3
    have R4 : RS r (m + td.length) B (upd H3 p (.lst [])) := R3.new hp
    generalize upd H3 p (.lst []) = H4 at L4 U4 R4 ⊢
    cases hld : ld with
    | nil =>
      subst hld
      refine iteF ?_
      refine ⟨_, rfl, ?_⟩
      rw [List.append_nil] at pm
      refine q U H4 tv td bU rU pm dt ?_
      have e : ds.length = td.length := pm.length_eq
      rw [e]
      exact R4.keep U4 bU rU
    | cons d0 ld0 =>
      rw [← hld]
      have hpos : 0 < ld.length := by rw [hld]; exact Nat.succ_pos _
      have hne : ld.isEmpty = false := by rw [hld]; rfl
      rw [hne]
      refine iteT ⟨fun σ' H' => ∃ m', m' < ld.length ∧ ∃ lv ld tv td, σ' = [some (.ref r), some (.ref l), some (.ref L), some (.ref U)] ∧ H' L = some (.lst lv) ∧ H' U = some (.lst tv) ∧ DpAll K B lv ld ∧ DpAll K B tv td ∧ List.Perm ds (td ++ ld) ∧ m' = ld.length ∧ RS r (m + td.length) B H', fun _ _ h => h, ?_⟩
      refine ⟨_, rfl, Or.inl ⟨rfl, _, Or.inl (Or.inl U4)⟩, _, rfl, Or.inl ⟨rfl, _, Or.inl (Or.inl L4)⟩, _, rfl, _, rfl, L, lv, rfl, Or.inl (Or.inl (Or.inl L4)), r, _, _, rfl, R4.ok, by omega, by omega, by omega, fun d H5 d1 d2 D => ?_⟩
      have L5 : H5 L = some (.lst lv) := by rw [D.ne _ rL.symm]; exact L4
      have U5 : H5 U = some (.lst tv) := by rw [D.ne _ rU.symm]; exact U4
      have R5 := R4.dr D
      have d3 : d < (lv.length : Int) := d2
      obtain ⟨y, a1, a2, a3⟩ := atI_in d1 d3
      obtain ⟨j, b1, b2, b3, b4, b5⟩ := atI_get a1
      obtain ⟨e, e1, e2⟩ := dps_get dl b2
      have lj : (lv.eraseIdx j).length + 1 = lv.length := by
        rw [List.length_eraseIdx_of_lt b3]
        omega
      refine ⟨L, lv, d, j, y, rfl, rfl, L5, by omega, by omega, b1, b2, U, tv, y, rfl, rfl, ?_, small1000 (by omega), ?_⟩
      · rw [upd_ne LU.symm]
        exact U5
      · have dl' := dps_erase (k := j) dl
        have ll' := dps_len dl'
        refine ⟨(ld.eraseIdx j).length, by omega, lv.eraseIdx j, ld.eraseIdx j, tv ++ [y], td ++ [e], rfl, ?_, upd_same, dl', dps_snoc dt e2, ?_, rfl, ?_⟩
        · rw [upd_ne LU]
          exact upd_same
        · refine pm.trans ?_
          rw [List.append_assoc]
          exact .append_left _ (perm_erase e1)
        · have := (R5.put (o := .lst (lv.eraseIdx j)) bL rL).put (o := .lst (tv ++ [y])) bU rU
          rw [List.length_append]
          exact this
def spVector (K : PySem.W.Frag) : Sp := fun vs H Q _ => ∃ (r : Addr) (dims wide : Int) (m : Nat) (B : Hp), vs = [.ref r, .int dims, .int wide] ∧ RS r m B H ∧ 0 ≤ dims ∧ dims ≤ 3 ∧ 0 ≤ wide ∧ wide ≤ 1000 ∧ m ≤ 2 ^ 59 ∧
  ∀ p H' (v : List Int), B p = none → r ≠ p → (v.length : Int) = dims → (∀ x ∈ v, -1000 ≤ x ∧ x ≤ 1000) → RS r (m + 9) (upd B p (.tup (v.map V.int))) H' → Q (.ref p) H'
theorem ok_vector {f : Addr} {fd : FuncData} (F : Fun K "_law_vector" "_law_vector" s_Lvector f fd) (T : Txt mg) (c_Ldraw : C8.Cal P w K mg base 1 "_law_draw" spDraw []) : FnOk P w K mg base CX0 2 f fd ["_law_rng_here", "_law_dims", "_law_wide"] (spVector K) := by
  refine F.ok sc_Lvector (fun vs H Q E h => ?_) (fun cdv A outer sh H vs Q E hr h => ?_)
  · obtain ⟨r, dims, wide, m, B, rfl, _⟩ := h
    rfl
  · obtain ⟨r, dims, wide, m, B, rfl, R, hd0, hd3, hw0, hw1, hm, q⟩ := h
    refine ⟨_, (pss_cons (ps_set (i := 3) sc_Lvector.nd rfl (by first | exact Or.inl rfl | exact Or.inr rfl) (pe_lst pa_nil))
  (pss_cons (ps_for PassesOwn.never rfl (pi_range1 (by rfl) T.b_range (pa_cons (pv 1) pa_nil)) (pg_name (i := 4) sc_Lvector.nd rfl (by first | exact Or.inl rfl | exact Or.inr rfl))
    (pss_one (ps_expr (pe_bm PySem.F.plainAttrs_list PySem.F.slot_list_append PySem.F.type_list_append mt_append (pv 3) (pa_cons (pe_ix ix_list (pe_lst (pa_cons pe_int (pa_cons pe_int (pa_cons (C8.pe_c c_Ldraw hr (by decide) (by rfl) (pa_cons (pv 0) (pa_cons (pe_op op_add (pv 2) pe_int) pa_nil))) (pa_cons (pe_op op_sub pe_int (C8.pe_c c_Ldraw hr (by decide) (by rfl) (pa_cons (pv 0) (pa_cons (pe_op op_add (pv 2) pe_int) pa_nil)))) pa_nil))))) (C8.pe_c c_Ldraw hr (by decide) (by rfl) (pa_cons (pv 0) (pa_cons pe_int pa_nil))) (fun _ _ => rfl)) pa_nil)))))
  (pss_one (ps_ret (pe_callTy call_tuple_of (by rfl) T.b_tuple (by decide +kernel) (pa_cons (pv 3) pa_nil)))))), ?_⟩
    refine ⟨Nat.zero_le _, fun L hL => ?_⟩
    have R1 : RS r m B (upd H L (.lst [])) := R.new hL
    have L1 : (upd H L (.lst [])) L = some (.lst []) := upd_same
    have bL : B L = none := free_of R.s hL
    have rL := R.ne hL
    generalize upd H L (.lst []) = H1 at R1 L1 ⊢
    refine ⟨_, rfl, dims, rfl, by omega, by omega, for_range (fun i σ H' => ∃ (y4 : Option V) (xs : List Int), σ = [some (.ref r), some (.int dims), some (.int wide), some (.ref L), y4] ∧ xs.length = i ∧ (∀ x ∈ xs, -1000 ≤ x ∧ x ≤ 1000) ∧ H' L = some (.lst (xs.map V.int)) ∧ RS r (m + 3 * i) B H')
      ⟨none, [], rfl, rfl, (by intro x hx; cases hx), L1, R1⟩ ?_ ?_⟩
    · rintro i σ H2 hi ⟨y4, xs, rfl, hx, hb, L2, R2⟩
      have hi3 : i < 3 := by omega
      refine ⟨_, rfl, Or.inl ⟨rfl, _, Or.inl (Or.inl L2)⟩, _, rfl, _, rfl, _, _, rfl, rfl, r, _, _, rfl, R2.ok, by omega, by omega, by omega, fun d1 H3 a0 a1 D1 => ?_⟩
      have R3 := R2.dr D1
      have L3 : H3 L = some (.lst (xs.map V.int)) := by rw [D1.ne _ rL.symm]; exact L2
      refine ⟨_, rfl, _, rfl, _, _, rfl, rfl, r, _, _, rfl, R3.ok, by omega, by omega, by omega, fun d2 H4 b0 b1 D2 => ⟨_, _, rfl, rfl, ?_⟩⟩
      have R4 := R3.dr D2
      have L4 : H4 L = some (.lst (xs.map V.int)) := by rw [D2.ne _ rL.symm]; exact L3
      refine ⟨(by show 4 ≤ sizeLine; decide), fun p hp => ?_⟩
      have R5 : RS r (m + 3 * i + 1 + 1) B (upd H4 p (.lst [.int 0, .int 1, .int d1, .int (0 - d2)])) := R4.new hp
      have L5 : (upd H4 p (.lst [.int 0, .int 1, .int d1, .int (0 - d2)])) L = some (.lst (xs.map V.int)) := by rw [upd_ne (ne_of_none L4 hp)]; exact L4
      have p5 : (upd H4 p (.lst [.int 0, .int 1, .int d1, .int (0 - d2)])) p = some (.lst ([0, 1, d1, 0 - d2].map V.int)) := upd_same
      refine ⟨_, rfl, r, 4, m + 3 * i + 1 + 1, rfl, R5.ok, by omega, by omega, by decide, fun d3 H6 c0 c1 D3 => ?_⟩
      have R6 := R5.dr D3
      have L6 : H6 L = some (.lst (xs.map V.int)) := by rw [D3.ne _ rL.symm]; exact L5
      have p6 : H6 p = some (.lst ([0, 1, d1, 0 - d2].map V.int)) := by rw [D3.ne _ (R4.ne hp).symm]; exact p5
      obtain ⟨y, e1, e2, _⟩ := atI_in (xs := [0, 1, d1, 0 - d2].map V.int) c0 c1
      obtain ⟨n, hn, rfl⟩ := List.mem_map.mp e2
      have hnb : -1000 ≤ n ∧ n ≤ 1000 := by
        simp only [List.mem_cons, List.not_mem_nil, or_false] at hn
        omega
      refine ⟨p, _, d3, .int n, rfl, rfl, Or.inl (Or.inl p6), e1, L, _, .int n, rfl, rfl, L6, small1000 (by rw [List.length_map]; omega), ?_⟩
      refine ⟨_, xs ++ [n], rfl, by rw [List.length_append, hx]; rfl, ?_, ?_, (R6.put bL rL).mono (by omega)⟩
      · intro x h
        rcases List.mem_append.mp h with h | h
        · exact hb x h
        · rw [List.mem_singleton.mp h]
          exact hnb
      · rw [upd_same, List.map_append]
        rfl
    · rintro σ H2 ⟨y4, xs, rfl, hx, hb, L2, R2⟩
      refine ⟨_, rfl, L, _, rfl, Or.inl ⟨Or.inl (Or.inl L2), fun l hl => ?_⟩⟩
      have R3 : RS r (m + 9) B (upd H2 l (.tup (xs.map V.int))) := (R2.new hl).mono (by omega)
      exact q l _ xs (free_of R2.s hl) (R2.ne hl) (by omega) hb (R3.keep upd_same (free_of R2.s hl) (R2.ne hl))
end
end Fr

namespace Fr
open PySem PySem.Spec PyProof.Rows L2
/-- a statement, up to what holds behind it -/
def tCsq (t : TS) : TS := fun D σ H => ∃ N : L2.St → Hp → Prop, (∀ σ H, N σ H → D.nx σ H) ∧ t { D with nx := N } σ H
theorem ps_csq {X : Cx} {st : Stmt} {t : TS} (h : PS X st t) : PS X st (tCsq t) := ⟨fun pins s σ H D I ⟨N, hN, q⟩ => thn (h.run pins s σ H _ I q) fun f s2 q2 => by
  cases f with
  | next =>
    obtain ⟨σ3, H3, I3, n3⟩ := q2
    exact ⟨σ3, H3, I3, hN _ _ n3⟩
  | cont => exact q2
  | brk => exact q2
  | ret v => exact q2⟩
abbrev s_Lmade_rows : Stmt := topS 37
theorem sc_Lmade_rows : FnScope ["_law_rng_here", "_law_dims", "_law_many", "_law_most", "_law_wide", "_law_words", "_law_word", "_law_rows", "_law_turn", "_law_number", "_law_some", "_law_factor"] ["_law_rng_here", "_law_dims", "_law_many", "_law_most", "_law_wide"] (defScope s_Lmade_rows) := ⟨rfl, rfl, rfl, by decide +kernel, rfl, by decide +kernel, by decide +kernel⟩
-- slots: 0 _law_rng_here, 1 _law_dims, 2 _law_many, 3 _law_most, 4 _law_wide, 5 _law_words, 6 _law_word, 7 _law_rows, 8 _law_turn, 9 _law_number, 10 _law_some, 11 _law_factor
def W0 : List Str := ["a", "b", "c", "ab", "zz", "readhere"]
def row5 (x : Str) : Str := "row" ++ cutS x none (some 5)
theorem W0_names : ∀ x ∈ W0, isName x = true ∧ isName (row5 x) = true ∧ x.length ≤ 8 ∧ PyData.strOk x = true ∧ PyData.strOk (row5 x) = true ∧ (cutS x none (some 5)).length ≤ 5 := by decide +kernel
theorem W0_nodup : W0.Nodup := by decide +kernel
theorem W0_nodup5 : (W0.map row5).Nodup := by decide +kernel
/-- what words may be -/
structure Words (ws : List Str) (n : Nat) : Prop where
  len : ws.length = n
  nodup : ws.Nodup
  names : ∀ x ∈ ws, isName x = true
  oks : ∀ x ∈ ws, PyData.strOk x = true
  src : (∀ x ∈ ws, x ∈ W0) ∨ ∀ x ∈ ws, x ∈ W0.map row5
def unstr : PyData → Str
  | .str x => x
  | _ => Str.empty
theorem perm_words {es : List PyData} (h : List.Perm (W0.map PyData.str) es) : ∃ ws, es = ws.map PyData.str ∧ List.Perm W0 ws := by
  refine ⟨es.map unstr, ?_, ?_⟩
  · rw [List.map_map]
    refine (List.map_id es).symm.trans (List.map_congr_left fun e he => ?_)
    obtain ⟨x, _, rfl⟩ := List.mem_map.mp (h.mem_iff.mpr he)
    rfl
  · have := h.map unstr
    rw [List.map_map] at this
    have e : W0.map (unstr ∘ PyData.str) = W0 := by
      refine (List.map_congr_left fun e he => ?_).trans (List.map_id W0)
      rfl
    rw [e] at this
    exact this
theorem nthsf (l : List Str) (g : Str → Str) : (List.range l.length).map (fun i => V.str (g (nth l i))) = (l.map g).map V.str := by
  have := range_map_get ((l.map g).map V.str) (fun i => V.str (g (nth l i))) (fun i b hb => by
    rw [List.getElem?_map, List.getElem?_map] at hb
    obtain ⟨c, h1, h2⟩ := Option.map_eq_some_iff.mp hb
    obtain ⟨c', h3, h4⟩ := Option.map_eq_some_iff.mp h1
    rw [nth_of h3, h4]
    exact h2)
  rw [List.length_map, List.length_map] at this
  exact this
theorem RS.grow {r : Addr} {m : Nat} {B H H' : Hp} (h : RS r m B H) (e : Same H H') : RS r m B H' := ⟨same_tr h.s e, h.n, by
  obtain ⟨o, ho⟩ := h.ok.some
  exact h.ok.at (by rw [ho, e _ _ ho])⟩
section
variable {P : Program} {w : World} {K : PySem.W.Frag} {mg : Str → Option Value} {base : Heap}
theorem strs_dps {H : Hp} : ∀ (xs : List Str), DpAll K H (xs.map V.str) (xs.map PyData.str)
  | [] => .nil
  | x :: xs => .cons (.str x) (strs_dps xs)
theorem dps_strs {H : Hp} : ∀ {xs : List Str} {vs : List V}, DpAll K H vs (xs.map PyData.str) → vs = xs.map V.str
  | [], _, h => by cases h; rfl
  | n :: ns, _, h => by
    cases h with
    | cons h1 h2 => cases h1; rw [dps_strs h2]; rfl
structure Row1 where
  t : Addr
  w : Str
  c : Int
  l : Addr
  rs : List Rd1
def Row1.tb (y : Row1) : Tb := ⟨y.w, y.c, y.rs⟩
structure RowsAt (K : PySem.W.Frag) (B H : Hp) (r : Addr) (rows : List Row1) : Prop where
  at_ : ∀ (i : Nat) (y : Row1), rows[i]? = some y → SqT K B y.t [.str y.w, .int y.c, .ref y.l] ∧ B y.l = none ∧ r ≠ y.l ∧ ∃ xs, H y.l = some (.lst xs) ∧ DpAll K B xs (y.rs.map Rd1.d)
  inj : ∀ (i j : Nat) (y z : Row1), rows[i]? = some y → rows[j]? = some z → y.l = z.l → i = j
theorem RowsAt.step {B B' H H' : Hp} {r : Addr} {rows : List Row1} (h : RowsAt K B H r rows) (e : Same B B') (f : ∀ (i : Nat) (y : Row1), rows[i]? = some y → B' y.l = none ∧ H' y.l = H y.l) : RowsAt K B' H' r rows :=
  ⟨fun i y hy => by
    obtain ⟨a1, a2, a3, xs, a4, a5⟩ := h.at_ i y hy
    obtain ⟨b1, b2⟩ := f i y hy
    exact ⟨sqt e a1, b1, a3, xs, by rw [b2, a4], dpsm e _ _ a5⟩, h.inj⟩
theorem get_snoc {α : Type} {xs : List α} {x y : α} {i : Nat} (h : (xs ++ [x])[i]? = some y) : (xs[i]? = some y ∧ i < xs.length) ∨ (i = xs.length ∧ y = x) := by
  by_cases hi : i < xs.length
  · rw [List.getElem?_append_left hi] at h
    exact .inl ⟨h, hi⟩
  · rw [List.getElem?_append_right (by omega)] at h
    have : i - xs.length = 0 := by
      by_cases h0 : i - xs.length = 0
      · exact h0
      · rw [List.getElem?_eq_none (by simp; omega)] at h
        cases h
    rw [this] at h
    cases h
    exact .inr ⟨by omega, rfl⟩
theorem RowsAt.snoc {B H : Hp} {r : Addr} {rows : List Row1} {y : Row1} (h : RowsAt K B H r rows) (a : SqT K B y.t [.str y.w, .int y.c, .ref y.l]) (b : B y.l = none) (c : r ≠ y.l) (d : H y.l = some (.lst [])) (e : y.rs = []) (n : ∀ (i : Nat) (z : Row1), rows[i]? = some z → z.l ≠ y.l) : RowsAt K B H r (rows ++ [y]) :=
  ⟨fun i z hz => by
    rcases get_snoc hz with ⟨h1, _⟩ | ⟨_, rfl⟩
    · exact h.at_ i z h1
    · exact ⟨a, b, c, [], d, by rw [e]; exact .nil⟩, fun i j y' z hy hz hl => by
    rcases get_snoc hy with ⟨h1, k1⟩ | ⟨k1, rfl⟩ <;> rcases get_snoc hz with ⟨h2, k2⟩ | ⟨k2, rfl⟩
    · exact h.inj i j _ _ h1 h2 hl
    · exact absurd hl (n _ _ h1)
    · exact absurd hl.symm (n _ _ h2)
    · omega⟩
theorem get_set {α : Type} {xs : List α} {x y : α} {i j : Nat} (h : (xs.set j x)[i]? = some y) : (i = j ∧ y = x) ∨ (i ≠ j ∧ xs[i]? = some y) := by
  by_cases hi : j = i
  · subst hi
    rw [List.getElem?_set_self'] at h
    cases hx : xs[j]? with
    | none =>
      rw [hx] at h
      cases h
    | some z =>
      rw [hx] at h
      cases h
      exact .inl ⟨rfl, rfl⟩
  · rw [List.getElem?_set_ne hi] at h
    exact .inr ⟨fun e => hi e.symm, h⟩
theorem map_set_same {α β : Type} {xs : List α} {x y : α} {j : Nat} {f : α → β} (h : xs[j]? = some y) (e : f x = f y) : (xs.set j x).map f = xs.map f := by
  rw [List.map_set, e]
  refine List.ext_getElem? fun i => ?_
  by_cases hi : j = i
  · subst hi
    rw [List.getElem?_set_self', List.getElem?_map, h]
    rfl
  · rw [List.getElem?_set_ne hi]
theorem sum_set {α : Type} {f : α → Nat} : ∀ {xs : List α} {x y : α} {j : Nat}, xs[j]? = some y → f x = f y + 1 → ((xs.set j x).map f).sum = (xs.map f).sum + 1
  | [], _, _, _, h, _ => by cases h
  | z :: xs, x, y, 0, h, e => by
    cases h
    simp [e]
    omega
  | z :: xs, x, y, j + 1, h, e => by
    have := sum_set (xs := xs) (x := x) (y := y) (j := j) (by simpa using h) e
    rw [List.set_cons_succ, List.map_cons, List.map_cons, List.sum_cons, List.sum_cons, this]
    omega
/-- a read more at the j-th row -/
theorem RowsAt.put {B H : Hp} {r : Addr} {rows : List Row1} {y : Row1} {j : Nat} {rd : Rd1} {v : V} {xs : List V} (h : RowsAt K B H r rows) (e : rows[j]? = some y) (hx : H y.l = some (.lst xs)) (hv : Dp K B v rd.d) :
    RowsAt K B (upd H y.l (.lst (xs ++ [v]))) r (rows.set j { y with rs := y.rs ++ [rd] }) :=
  ⟨fun i z hz => by
    rcases get_set hz with ⟨rfl, rfl⟩ | ⟨ne, hz⟩
    · obtain ⟨a1, a2, a3, xs', a4, a5⟩ := h.at_ _ y e
      rw [hx] at a4
      cases a4
      refine ⟨a1, a2, a3, xs ++ [v], upd_same, ?_⟩
      show DpAll K B (xs ++ [v]) ((y.rs ++ [rd]).map Rd1.d)
      rw [List.map_append]
      exact dps_snoc a5 hv
    · obtain ⟨a1, a2, a3, xs', a4, a5⟩ := h.at_ _ z hz
      refine ⟨a1, a2, a3, xs', ?_, a5⟩
      rw [upd_ne fun hl => ne (h.inj i j z y hz e hl)]
      exact a4, fun i i' z z' hz hz' hl => by
    rcases get_set hz with ⟨rfl, rfl⟩ | ⟨ne, hz1⟩ <;> rcases get_set hz' with ⟨rfl, rfl⟩ | ⟨ne', hz2⟩
    · rfl
    · exact h.inj _ _ y z' e hz2 hl
    · exact h.inj _ _ z y hz1 e hl
    · exact h.inj _ _ z z' hz1 hz2 hl⟩
theorem RowsAt.dr {B H H' : Hp} {r : Addr} {m : Nat} {rows : List Row1} (h : RowsAt K B H r rows) (d : Dr r m H H') : RowsAt K B H' r rows := h.step same_refl fun j y hy => ⟨(h.at_ j y hy).2.1, d.ne _ (h.at_ j y hy).2.2.1.symm⟩
theorem RowsAt.new {B H : Hp} {r p : Addr} {o : HO} {rows : List Row1} (h : RowsAt K B H r rows) (e : H p = none) : RowsAt K B (upd H p o) r rows := h.step same_refl fun j y hy => by
  obtain ⟨a1, a2, a3, xs, a4, a5⟩ := h.at_ j y hy
  exact ⟨a2, upd_ne (ne_of_none a4 e)⟩
theorem dps_of {α : Type} {H : Hp} {f : α → V} {g : α → PyData} : ∀ {xs : List α}, (∀ x ∈ xs, Dp K H (f x) (g x)) → DpAll K H (xs.map f) (xs.map g)
  | [], _ => .nil
  | x :: xs, h => .cons (h x List.mem_cons_self) (dps_of fun y hy => h y (List.mem_cons_of_mem _ hy))
theorem yes_if {σ : L2.St} {H : Hp} {A B : Hp → Prop} (h : A H) : tYes σ H (fun b H3 => if b = true then A H3 else B H3) := by
  show (if true = true then A H else B H)
  rw [if_pos rfl]
  exact h
theorem mem_le_sum {α : Type} {f : α → Nat} : ∀ {xs : List α} {x : α}, x ∈ xs → f x ≤ (xs.map f).sum
  | [], _, h => by cases h
  | y :: xs, x, h => by
    rw [List.map_cons, List.sum_cons]
    rcases List.mem_cons.mp h with rfl | h
    · omega
    · have := mem_le_sum (f := f) h
      omega
theorem sum_zero {α : Type} {f : α → Nat} : ∀ {xs : List α}, (∀ x ∈ xs, f x = 0) → (xs.map f).sum = 0
  | [], _ => rfl
  | x :: xs, h => by
    rw [List.map_cons, List.sum_cons, h x List.mem_cons_self, sum_zero fun y hy => h y (List.mem_cons_of_mem _ hy)]
theorem RS.vec {r q : Addr} {m m' : Nat} {B H H' : Hp} {o : HO} (h : RS r m B H) (e : RS r m' (upd (cutr H r) q o) H') (n : cutr H r q = none) (k : r ≠ q) : RS r m' (upd B q o) H' ∧ B q = none ∧ H q = none ∧ ∀ b, b ≠ r → H b ≠ none → H' b = H b := by
  have hq : H q = none := by
    rw [cutr_ne k.symm] at n
    exact n
  have keep : ∀ b, b ≠ r → H b ≠ none → H' b = H b := fun b nb hb => by
    cases ho : H b with
    | none => exact absurd ho hb
    | some o' =>
      refine e.s b o' ?_
      rw [upd_ne (ne_of_none ho hq), cutr_ne nb]
      exact ho
  refine ⟨⟨fun b x hx => ?_, by rw [upd_ne k]; exact h.n, e.ok⟩, free_of h.s hq, hq, keep⟩
  by_cases hb : b = q
  · rw [hb, upd_same] at hx
    rw [hb]
    exact e.s q x (by rw [upd_same]; exact hx)
  · rw [upd_ne hb] at hx
    have hH := h.s b x hx
    rw [keep b (ne_of_none hx h.n) (by rw [hH]; exact fun z => by cases z)]
    exact hH
/-- a list of data that may still be changed -/
def LD (K : PySem.W.Frag) (H : Hp) (l : Addr) (ds : List PyData) : Prop := ∃ xs, H l = some (.lst xs) ∧ DpAll K H xs ds
theorem LD.dp {H : Hp} {l : Addr} {ds : List PyData} (h : LD K H l ds) : Dp K H (.ref l) (.list ds) := by
  obtain ⟨xs, h1, h2⟩ := h
  exact .lst (Or.inl (Or.inl h1)) h2
theorem LD.grow {H H' : Hp} {l : Addr} {ds : List PyData} (h : LD K H l ds) (e : Same H H') : LD K H' l ds := by
  obtain ⟨xs, h1, h2⟩ := h
  exact ⟨xs, e _ _ h1, dpsm e _ _ h2⟩
/-- numbers within bounds -/
structure SmT (t : Tb) : Prop where
  c : -99 ≤ t.c ∧ t.c ≤ 99
  f : ∀ rd ∈ t.rs, -10 ≤ rd.f ∧ rd.f ≤ 10
  v : ∀ rd ∈ t.rs, ∀ x ∈ rd.v, -1000 ≤ x ∧ x ≤ 1000
def spRows (K : PySem.W.Frag) : Sp := fun vs H Q _ => ∃ (r : Addr) (dims many most wide : Int) (m : Nat) (B : Hp), vs = [.ref r, .int dims, .int many, .int most, .int wide] ∧ RS r m B H ∧ 1 ≤ dims ∧ dims ≤ 3 ∧ 1 ≤ many ∧ many ≤ 6 ∧ 0 ≤ most ∧ most ≤ 12 ∧ 0 ≤ wide ∧ wide ≤ 1000 ∧ m ≤ 2 ^ 58 ∧
  ∀ p B' H' (ts : List Tb), Same B B' → RS r (m + 1000) B' H' → LD K B' p (ts.map Tb.d) → (ts.length : Int) = many → OkT dims ts → (∀ t ∈ ts, PyData.strOk t.n = true) → (∀ t ∈ ts, SmT t) → ((∀ t ∈ ts, t.n ∈ W0) ∨ ∀ t ∈ ts, t.n ∈ W0.map row5) → (((ts.map fun t => t.rs.length).sum : Nat) : Int) ≤ most → Q (.ref p) H'
theorem ok_made_rows {f : Addr} {fd : FuncData} (F : Fun K "_law_made_rows" "_law_made_rows" s_Lmade_rows f fd) (T : Txt mg) (c_Ldraw : C8.Cal P w K mg base 1 "_law_draw" spDraw []) (c_Lmixed : C8.Cal P w K mg base 2 "_law_mixed" (spMixed K) []) (c_Lvector : C8.Cal P w K mg base 2 "_law_vector" (spVector K) []) : FnOk P w K mg base CX0 3 f fd ["_law_rng_here", "_law_dims", "_law_many", "_law_most", "_law_wide"] (spRows K) := by
  refine F.ok sc_Lmade_rows (fun vs H Q E h => ?_) (fun cdv A outer sh H vs Q E hr h => ?_)
  · obtain ⟨r, dims, many, most, wide, m, B, rfl, _⟩ := h
    rfl
  · obtain ⟨r, dims, many, most, wide, m, B, rfl, R, hd1, hd3, hn1, hn6, hm0, hm12, hw0, hw1, hm, q⟩ := h
    refine ⟨_, (pss_cons (ps_set (i := 5) sc_Lmade_rows.nd rfl (by first | exact Or.inl rfl | exact Or.inr rfl) (pe_slice sl_list (C8.pe_c c_Lmixed hr (by decide) (by rfl) (pa_cons (pv 0) (pa_cons (pe_lst (pa_cons pe_str (pa_cons pe_str (pa_cons pe_str (pa_cons pe_str (pa_cons pe_str (pa_cons pe_str pa_nil))))))) pa_nil))) po_none (po_some (pv 2))))
  (pss_cons (ps_csq (ps_if (pt_cmpR op_eq (C8.pe_c c_Ldraw hr (by decide) (by rfl) (pa_cons (pv 0) (pa_cons pe_int pa_nil))) pe_int (nomark _))
    (pss_one (ps_setLc (i := 5) (own := [("_law_word", 6)]) (g := gName 6) (tt := tYes) (by rfl) sc_Lmade_rows.nd rfl rfl (sw_true rfl rfl rfl (by decide +kernel)) (pi_list (pv 5)) (blkOk_by (N := ["_law_rng_here", "_law_dims", "_law_many", "_law_most", "_law_wide", "_law_words", "_law_word", "_law_rows", "_law_turn", "_law_number", "_law_some", "_law_factor"]) (sc := defScope s_Lmade_rows) (by decide +kernel)) (fun _ _ _ _ _ => (pg_name (i := 6) sc_Lmade_rows.nd rfl (by first | exact Or.inl rfl | exact Or.inr rfl))) (fun _ _ _ _ _ => pts_nil) (fun _ _ _ _ _ => (pe_op op_add_str pe_str (pe_slice sl_str (pv 6) po_none (po_some pe_int))))))
    pss_nil))
  (pss_cons (ps_setLc (i := 7) (own := [("_law_word", 6)]) (g := gName 6) (tt := tYes) (by rfl) sc_Lmade_rows.nd rfl rfl (sw_true rfl rfl rfl (by decide +kernel)) (pi_list (pv 5)) (blkOk_by (N := ["_law_rng_here", "_law_dims", "_law_many", "_law_most", "_law_wide", "_law_words", "_law_word", "_law_rows", "_law_turn", "_law_number", "_law_some", "_law_factor"]) (sc := defScope s_Lmade_rows) (by decide +kernel)) (fun _ _ _ _ _ => (pg_name (i := 6) sc_Lmade_rows.nd rfl (by first | exact Or.inl rfl | exact Or.inr rfl))) (fun _ _ _ _ _ => pts_nil) (fun _ _ _ _ _ => (pe_tup (pa_cons (pv 6) (pa_cons (pe_op op_sub (C8.pe_c c_Ldraw hr (by decide) (by rfl) (pa_cons (pv 0) (pa_cons pe_int pa_nil))) pe_int) (pa_cons (pe_lst pa_nil) pa_nil))))))
  (pss_cons (ps_for PassesOwn.never rfl (pi_range1 (by rfl) T.b_range (pa_cons (C8.pe_c c_Ldraw hr (by decide) (by rfl) (pa_cons (pv 0) (pa_cons (pe_op op_add (pv 3) pe_int) pa_nil))) pa_nil)) (pg_name (i := 8) sc_Lmade_rows.nd rfl (by first | exact Or.inl rfl | exact Or.inr rfl))
    (pss_cons (ps_asg (pe_ix ix_list (pv 7) (C8.pe_c c_Ldraw hr (by decide) (by rfl) (pa_cons (pv 0) (pa_cons (pv 2) pa_nil))) (fun _ _ => rfl)) (pg_tup rfl (pgs_cons (pg_name (i := 6) sc_Lmade_rows.nd rfl (by first | exact Or.inl rfl | exact Or.inr rfl)) (pgs_cons (pg_name (i := 9) sc_Lmade_rows.nd rfl (by first | exact Or.inl rfl | exact Or.inr rfl)) (pgs_cons (pg_name (i := 10) sc_Lmade_rows.nd rfl (by first | exact Or.inl rfl | exact Or.inr rfl)) pgs_nil)))))
    (pss_cons (ps_set (i := 11) sc_Lmade_rows.nd rfl (by first | exact Or.inl rfl | exact Or.inr rfl) (pe_ix ix_list (pe_lst (pa_cons pe_int (pa_cons (pe_un un_neg pe_int) (pa_cons (pe_op op_add pe_int (C8.pe_c c_Ldraw hr (by decide) (by rfl) (pa_cons (pv 0) (pa_cons pe_int pa_nil)))) (pa_cons (pe_op op_sub (pe_op op_sub pe_int pe_int) (C8.pe_c c_Ldraw hr (by decide) (by rfl) (pa_cons (pv 0) (pa_cons pe_int pa_nil)))) pa_nil))))) (C8.pe_c c_Ldraw hr (by decide) (by rfl) (pa_cons (pv 0) (pa_cons pe_int pa_nil))) (fun _ _ => rfl)))
    (pss_one (ps_expr (pe_bm PySem.F.plainAttrs_list PySem.F.slot_list_append PySem.F.type_list_append mt_append (pv 10) (pa_cons (pe_tup (pa_cons (pe_ix ix_list (pv 5) (C8.pe_c c_Ldraw hr (by decide) (by rfl) (pa_cons (pv 0) (pa_cons (pv 2) pa_nil))) (fun _ _ => rfl)) (pa_cons (C8.pe_c c_Lvector hr (by decide) (by rfl) (pa_cons (pv 0) (pa_cons (pv 1) (pa_cons (pv 4) pa_nil)))) (pa_cons (pv 11) pa_nil)))) pa_nil)))))))
  (pss_one (ps_ret (pv 7))))))), ?_⟩
    -- the words
    refine ⟨_, rfl, (by show 6 ≤ sizeLine; decide), fun p0 hp0 => ?_⟩
    have bp0 := free_of R.s hp0
    have rp0 := R.ne hp0
    have R0 : RS r m (upd B p0 (.lst (W0.map V.str))) (upd H p0 (.lst (W0.map V.str))) := (R.new hp0).keep upd_same bp0 rp0
    refine ⟨r, p0, m, _, W0.map V.str, W0.map PyData.str, rfl, R0, Or.inl (Or.inl upd_same), strs_dps _, ?_, by decide, by omega, fun p1 H1 ys es b1 r1 pm dys R1 => ?_⟩
    · intro d hd
      obtain ⟨x, _, rfl⟩ := List.mem_map.mp hd
      exact ⟨by simp only [PyData.canLay0]; exact (W0_names x (by assumption)).2.2.2.1, by simp [PyData.depth]⟩
    have s01 : Same B (upd (upd B p0 (.lst (W0.map V.str))) p1 (.lst ys)) := same_tr (snew bp0) (snew b1)
    have b1at : (upd (upd B p0 (.lst (W0.map V.str))) p1 (.lst ys)) p1 = some (.lst ys) := upd_same
    obtain ⟨ws0, rfl, pw⟩ := perm_words pm
    obtain rfl := dps_strs dys
    generalize upd (upd B p0 (.lst (W0.map V.str))) p1 (.lst (ws0.map V.str)) = B1 at R1 s01 b1at
    have hwl : ws0.length = 6 := pw.length_eq.symm
    refine ⟨_, rfl, many, rfl, p1, _, rfl, Or.inl (Or.inl (R1.s _ _ b1at)), fun p2 hp2 => ?_⟩
    have ecut : cutV (ws0.map V.str) none (some many) = (ws0.take many.toNat).map V.str := by
      have h := cut_to (ws0.map V.str) many.toNat (by rw [List.length_map]; omega)
      rw [Int.toNat_of_nonneg (by omega)] at h
      rw [h, List.map_take]
    rw [ecut]
    have R2 := (R1.new (o := .lst ((ws0.take many.toNat).map V.str)) hp2).keep upd_same (free_of R1.s hp2) (R1.ne hp2)
    have s02 : Same B (upd B1 p2 (.lst ((ws0.take many.toNat).map V.str))) := same_tr s01 (snew (free_of R1.s hp2))
    have b2at : (upd B1 p2 (.lst ((ws0.take many.toNat).map V.str))) p2 = some (.lst ((ws0.take many.toNat).map V.str)) := upd_same
    generalize upd B1 p2 (.lst ((ws0.take many.toNat).map V.str)) = B2 at R2 s02 b2at
    generalize upd H1 p2 (.lst ((ws0.take many.toNat).map V.str)) = H2 at R2
    -- the if
    refine ⟨fun σ H' => ∃ (wl : Addr) (B' : Hp) (ws : List Str), σ = [some (.ref r), some (.int dims), some (.int many), some (.int most), some (.int wide), some (.ref wl), none, none, none, none, none, none] ∧ RS r (m + 7) B' H' ∧ Same B B' ∧ B' wl = some (.lst (ws.map V.str)) ∧ Words ws many.toNat, ?_, ?_⟩
    · rintro σ H3 ⟨wl, B', ws, rfl, R3, s3, hws, W⟩
      have wlen : ws.length ≤ 6 := by
        have := W.len
        omega
      refine ⟨_, rfl, wl, rfl, ⟨_, Or.inl (Or.inl (R3.s _ _ hws))⟩, fun D hD => lc_it (walk_list (K := K) (a := wl) (xs := ws.map V.str)) (fun i H' => ∃ (B2 : Hp) (rows : List Row1), Same B' B2 ∧ RS r (m + 7 + i) B2 H' ∧ RowsAt K B2 H' r rows ∧ rows.map (·.w) = ws.take i ∧ (∀ y ∈ rows, y.rs = [] ∧ -99 ≤ y.c ∧ y.c ≤ 99) ∧ H' D = some (.lst (rows.map fun y => V.ref y.t)) ∧ B2 D = none ∧ (∀ y ∈ rows, y.l ≠ D))
        ⟨B', [], same_refl, R3.new hD, ⟨fun i y h => (by cases h), fun i j y z h => (by cases h)⟩, rfl, (by intro y h; cases h), upd_same, free_of R3.s hD, (by intro y h; cases h)⟩ (fun i H' _ ⟨B2, rows, b1, b2, _⟩ => Or.inl (Or.inl (b2.s _ _ (b1 _ _ hws)))) ?_ ?_⟩
      · rintro i x _ H4 hi ⟨B2, rows, b1, b2, b3, b4, b5, b6, b7, b8⟩ ⟨rfl, hx⟩
        rw [List.length_map] at hi
        rw [List.getElem?_map] at hx
        obtain ⟨wd, hwd, rfl⟩ := Option.map_eq_some_iff.mp hx
        have hrl : rows.length = i := by
          have := congrArg List.length b4
          rw [List.length_map, List.length_take] at this
          omega
        have rD := R3.ne hD
        refine ⟨rfl, yes_if ?_⟩
        refine ⟨_, rfl, _, rfl, r, _, _, rfl, b2.ok, by omega, by decide, by decide, fun d H6 d0 d1 D6 => ⟨_, _, rfl, rfl, Nat.zero_le _, fun l hl => ⟨(by show 3 ≤ sizeLine; decide), fun t ht => ?_⟩⟩⟩
        have R6 := b2.dr D6
        have R7 := R6.new (o := .lst []) hl
        have D7 : (upd H6 l (.lst [])) D = some (.lst (rows.map fun y => V.ref y.t)) := by
          have h6 : H6 D = some (.lst (rows.map fun y => V.ref y.t)) := by rw [D6.ne _ rD.symm]; exact b6
          rw [upd_ne (ne_of_none h6 hl)]
          exact h6
        have lD : l ≠ D := fun z => by
          rw [z, D6.ne _ rD.symm, b6] at hl
          cases hl
        have tD : t ≠ D := fun z => by
          rw [z, D7] at ht
          cases ht
        have tl : t ≠ l := fun z => by
          rw [z, upd_same] at ht
          cases ht
        have bt : B2 t = none := free_of R7.s ht
        have bl : B2 l = none := free_of R6.s hl
        have R8 := (R7.new (o := .tup [.str wd, .int (d - 99), .ref l]) ht).keep upd_same bt (R7.ne ht)
        have b8D : (upd B2 t (.tup [.str wd, .int (d - 99), .ref l])) D = none := by rw [upd_ne tD.symm]; exact b7
        refine ⟨_, by rw [upd_ne tD.symm]; exact D7, small1000 (by rw [List.length_map]; omega), ?_⟩
        have hold : ∀ (j : Nat) (y : Row1), rows[j]? = some y → y.l ≠ D ∧ y.l ≠ l ∧ y.l ≠ t ∧ H6 y.l = H4 y.l := fun j y hy => by
          obtain ⟨a1, a2, a3, xs, a4, a5⟩ := b3.at_ j y hy
          have e6 : H6 y.l = H4 y.l := D6.ne _ a3.symm
          have h6 : H6 y.l = some (.lst xs) := by rw [e6]; exact a4
          have n1 := ne_of_none h6 hl
          refine ⟨b8 y (List.mem_of_getElem? hy), n1, ?_, e6⟩
          exact ne_of_none (by rw [upd_ne n1]; exact h6) ht
        refine ⟨upd B2 t (.tup [.str wd, .int (d - 99), .ref l]), rows ++ [⟨t, wd, d - 99, l, []⟩], same_tr b1 (snew bt), (R8.put b8D rD), ?_, ?_, ?_, ?_, b8D, ?_⟩
        · refine RowsAt.snoc (b3.step (snew bt) fun j y hy => ?_) (Or.inl (Or.inl upd_same)) ?_ (R6.ne hl) ?_ rfl fun j z hz => (hold j z hz).2.1
          · obtain ⟨n1, n2, n3, n4⟩ := hold j y hy
            refine ⟨?_, ?_⟩
            · rw [upd_ne n3]
              exact (b3.at_ j y hy).2.1
            · rw [upd_ne n1, upd_ne n3, upd_ne n2]
              exact n4
          · show (upd B2 t _) l = none
            rw [upd_ne tl.symm]
            exact bl
          · show (upd (upd (upd H6 l (.lst [])) t _) D _) l = _
            rw [upd_ne lD, upd_ne tl.symm, upd_same]
        · rw [List.map_append, b4, List.take_add_one, hwd]
          rfl
        · intro y hy
          rcases List.mem_append.mp hy with h | h
          · exact b5 y h
          · rw [List.mem_singleton.mp h]
            exact ⟨rfl, (by show -99 ≤ d - 99; omega), (by show d - 99 ≤ 99; omega)⟩
        · rw [upd_same, List.map_append]
          rfl
        · intro y hy
          rcases List.mem_append.mp hy with h | h
          · exact b8 y h
          · rw [List.mem_singleton.mp h]
            exact lD
      · rintro H4 ⟨B2, rows, b1, b2, b3, b4, b5, b6, b7, b8⟩
        rw [List.length_map, List.take_length] at b4
        rw [List.length_map] at b2
        have rD := R3.ne hD
        have R4 := b2.keep b6 b7 rD
        have M4 := b3.step (B' := upd B2 D (.lst (rows.map fun y => V.ref y.t))) (H' := H4) (snew b7) fun j y hy => ⟨by rw [upd_ne (b8 y (List.mem_of_getElem? hy))]; exact (b3.at_ j y hy).2.1, rfl⟩
        have B4D : (upd B2 D (.lst (rows.map fun y => V.ref y.t))) D = some (.lst (rows.map fun y => V.ref y.t)) := upd_same
        have s4 : Same B' (upd B2 D (.lst (rows.map fun y => V.ref y.t))) := same_tr b1 (snew b7)
        generalize upd B2 D (.lst (rows.map fun y => V.ref y.t)) = B4 at R4 M4 B4D s4
        have hrl : rows.length = ws.length := by
          have := congrArg List.length b4
          rw [List.length_map] at this
          exact this
        have s0 : (rows.map fun y => y.rs.length).sum = 0 := sum_zero fun y hy => by rw [(b5 y hy).1]; rfl
        have wmany : (ws.length : Int) = many := by
          have := W.len
          omega
        refine ⟨_, rfl, _, rfl, _, _, rfl, rfl, r, _, _, rfl, R4.ok, by omega, by omega, by omega, fun d H5 d0 d1 D5 => ⟨d, rfl, by omega, by omega, ?_⟩⟩
        refine for_range (fun i σ H' => ∃ (B5 : Hp) (rows' : List Row1) (y6 y8 y9 y10 y11 : Option V), σ = [some (.ref r), some (.int dims), some (.int many), some (.int most), some (.int wide), some (.ref wl), y6, some (.ref D), y8, y9, y10, y11] ∧ RS r (m + 20 + 20 * i) B5 H' ∧ RowsAt K B5 H' r rows' ∧ Same B4 B5 ∧ rows'.map (·.w) = ws ∧ rows'.map (fun y => V.ref y.t) = rows.map (fun y => V.ref y.t) ∧ (rows'.map fun y => y.rs.length).sum = i ∧ ∀ y ∈ rows', (-99 ≤ y.c ∧ y.c ≤ 99) ∧ ∀ rd ∈ y.rs, isRead dims rd = true ∧ rd.t ∈ ws ∧ (-10 ≤ rd.f ∧ rd.f ≤ 10) ∧ ∀ x ∈ rd.v, -1000 ≤ x ∧ x ≤ 1000)
          ⟨B4, rows, none, none, none, none, none, rfl, (R4.dr D5).mono (by omega), M4.step same_refl fun j y hy => ⟨(M4.at_ j y hy).2.1, D5.ne _ (M4.at_ j y hy).2.2.1.symm⟩, same_refl, b4, rfl, s0, fun y hy => ⟨(b5 y hy).2, fun rd hrd => by
            rw [(b5 y hy).1] at hrd
            cases hrd⟩⟩ ?_ ?_
        · rintro i σ H6 hi ⟨B5, rows', y6, y8, y9, y10, y11, rfl, R5, M5, s5, e1, e2, e3, e4⟩
          have hi12 : i < 12 := by omega
          have hrl' : rows'.length = ws.length := by
            have := congrArg List.length e1
            rw [List.length_map] at this
            exact this
          -- the row
          refine ⟨_, rfl, _, rfl, _, rfl, r, many, _, rfl, R5.ok, by omega, by omega, by omega, fun k1 H7 k10 k11 D7 => ?_⟩
          have R7 := R5.dr D7
          have M7 := M5.step (H' := H7) same_refl fun j y hy => ⟨(M5.at_ j y hy).2.1, D7.ne _ (M5.at_ j y hy).2.2.1.symm⟩
          obtain ⟨v, a1, _, a3⟩ := atI_in (xs := rows'.map fun y => V.ref y.t) k10 (by rw [List.length_map]; omega)
          rw [List.getElem?_map] at a3
          obtain ⟨y, hy, rfl⟩ := Option.map_eq_some_iff.mp a3
          obtain ⟨c1, c2, c3, xs, c4, c5⟩ := M7.at_ _ y hy
          refine ⟨D, _, k1, _, rfl, rfl, Or.inl (Or.inl (R7.s _ _ (s5 _ _ B4D))), by rw [← e2]; exact a1, y.t, _, rfl, sqt R7.s c1, rfl, _, _, rfl, _, _, rfl, _, _, rfl, rfl, ?_⟩
          -- the factor
          refine ⟨1, rfl, _, rfl, r, 9, _, rfl, R7.ok, by omega, by decide, by decide, fun k2 H8 k20 k21 D8 => ⟨_, _, rfl, rfl, _, _, rfl, rfl, ?_⟩⟩
          have R8 := R7.dr D8
          have M8 := M7.dr D8
          refine ⟨_, rfl, r, 9, _, rfl, R8.ok, by omega, by decide, by decide, fun k3 H9 k30 k31 D9 => ⟨_, _, rfl, rfl, (by show 4 ≤ sizeLine; decide), fun p hp => ?_⟩⟩
          have R9 := R8.dr D9
          have M9 := M8.dr D9
          have p10 : (upd H9 p (.lst [.int 1, .int (-1), .int (1 + k2), .int (0 - 1 - k3)])) p = some (.lst ([1, -1, 1 + k2, 0 - 1 - k3].map V.int)) := upd_same
          have R10 := R9.new (o := .lst [.int 1, .int (-1), .int (1 + k2), .int (0 - 1 - k3)]) hp
          have M10 := M9.new (o := .lst [.int 1, .int (-1), .int (1 + k2), .int (0 - 1 - k3)]) hp
          have rp := R9.ne hp
          refine ⟨_, rfl, r, 4, _, rfl, R10.ok, by omega, by decide, by decide, fun k4 H11 k40 k41 D11 => ?_⟩
          have R11 := R10.dr D11
          have M11 := M10.dr D11
          have p11 : H11 p = some (.lst ([1, -1, 1 + k2, 0 - 1 - k3].map V.int)) := by rw [D11.ne _ rp.symm]; exact p10
          obtain ⟨fv, f1, f2, _⟩ := atI_in (xs := [1, -1, 1 + k2, 0 - 1 - k3].map V.int) k40 k41
          obtain ⟨fc, f3, rfl⟩ := List.mem_map.mp f2
          have hfc : fc ≠ 0 ∧ -10 ≤ fc ∧ fc ≤ 10 := by
            simp only [List.mem_cons, List.not_mem_nil, or_false] at f3
            omega
          refine ⟨p, _, k4, _, rfl, rfl, Or.inl (Or.inl p11), f1, ?_⟩
          -- the append
          obtain ⟨g1, g2, g3, xs2, g4, g5⟩ := M11.at_ _ y hy
          refine ⟨_, rfl, Or.inl ⟨rfl, _, Or.inl (Or.inl g4)⟩, _, rfl, _, rfl, _, rfl, r, many, _, rfl, R11.ok, by omega, by omega, by omega, fun k5 H12 k50 k51 D12 => ?_⟩
          have R12 := R11.dr D12
          have M12 := M11.dr D12
          obtain ⟨tv, t1, _, t3⟩ := atI_in (xs := ws.map V.str) k50 (by rw [List.length_map]; omega)
          rw [List.getElem?_map] at t3
          obtain ⟨tw, htw, rfl⟩ := Option.map_eq_some_iff.mp t3
          refine ⟨wl, _, k5, _, rfl, rfl, Or.inl (Or.inl (R12.s _ _ (s5 _ _ (s4 _ _ hws)))), t1, ?_⟩
          refine ⟨_, rfl, _, rfl, _, rfl, r, dims, wide, _, cutr H12 r, rfl, RS.cut R12.ok, by omega, by omega, by omega, by omega, by omega, fun q1 H13 vec hq1 rq1 hvl hvb R13 => ?_⟩
          obtain ⟨R13', bq, hq12, keep⟩ := R12.vec R13 hq1 rq1
          have M13 := M12.step (B' := upd B5 q1 (.tup (vec.map V.int))) (H' := H13) (snew bq) fun j z hz => by
            obtain ⟨a1, a2, a3, xs, a4, a5⟩ := M12.at_ j z hz
            refine ⟨?_, keep _ a3.symm (by rw [a4]; exact fun z => by cases z)⟩
            rw [upd_ne (ne_of_none a4 hq12)]
            exact a2
          refine ⟨_, rfl, (by show 3 ≤ sizeLine; decide), fun u hu => ?_⟩
          have bu := free_of R13'.s hu
          have R14 := (R13'.new (o := .tup [.str tw, .ref q1, .int fc]) hu).keep upd_same bu (R13'.ne hu)
          have M14 := M13.step (B' := upd (upd B5 q1 (.tup (vec.map V.int))) u (.tup [.str tw, .ref q1, .int fc])) (H' := upd H13 u (.tup [.str tw, .ref q1, .int fc])) (snew bu) fun j z hz => by
            obtain ⟨a1, a2, a3, xs, a4, a5⟩ := M13.at_ j z hz
            have n := ne_of_none a4 hu
            exact ⟨by rw [upd_ne n]; exact a2, upd_ne n⟩
          obtain ⟨m1, m2, m3, xs4, m4, m5⟩ := M14.at_ _ y hy
          have lsm : xs4.length ≤ 12 := by
            have h1 := dps_len m5
            rw [List.length_map] at h1
            have h2 : y.rs.length ≤ (rows'.map fun y => y.rs.length).sum := mem_le_sum (f := fun y : Row1 => y.rs.length) (List.mem_of_getElem? hy)
            omega
          have nqu : q1 ≠ u := fun z => by
            rw [z, upd_same] at bu
            cases bu
          refine ⟨y.l, xs4, _, rfl, rfl, m4, small1000 (by omega), ?_⟩
          have hdp : Dp K (upd (upd B5 q1 (.tup (vec.map V.int))) u (.tup [.str tw, .ref q1, .int fc])) (.ref u) (Rd1.d ⟨tw, vec, fc⟩) := .tup (Or.inl (Or.inl upd_same)) (.cons (.str _) (.cons (.tup (Or.inl (Or.inl (by rw [upd_ne nqu]; exact upd_same))) (ints_dps _)) (.cons (.int _) .nil)))
          refine ⟨_, rows'.set k1.toNat { y with rs := y.rs ++ [⟨tw, vec, fc⟩] }, _, _, _, _, _, rfl, (R14.put m2 m3).mono (by omega), M14.put hy m4 hdp, same_tr s5 (same_tr (snew bq) (snew bu)), ?_, ?_, ?_, ?_⟩
          · exact (map_set_same hy (by rfl)).trans e1
          · exact (map_set_same hy (by rfl)).trans e2
          · exact (sum_set hy (by show (y.rs ++ [_]).length = _; rw [List.length_append]; rfl)).trans (by rw [e3])
          · intro z hz
            rcases List.mem_or_eq_of_mem_set hz with h | rfl
            · exact e4 z h
            · refine ⟨(e4 y (List.mem_of_getElem? hy)).1, fun rd hrd => ?_⟩
              rcases List.mem_append.mp hrd with h | h
              · exact (e4 y (List.mem_of_getElem? hy)).2 rd h
              · rw [List.mem_singleton.mp h]
                have hm := List.mem_of_getElem? htw
                refine ⟨?_, hm, hfc.2, hvb⟩
                unfold isRead
                rw [Bool.and_eq_true, Bool.and_eq_true]
                exact ⟨W.names _ hm, decide_eq_true hvl, by rw [decide_eq_false hfc.1]; rfl⟩
        · rintro σ H6 ⟨B5, rows', y6, y8, y9, y10, y11, rfl, R5, M5, s5, e1, e2, e3, e4⟩
          have hrl' : rows'.length = ws.length := by
            have := congrArg List.length e1
            rw [List.length_map] at this
            exact this
          have sc : ∀ {X : Hp}, Same X H6 → X r = none → Same X (cutr H6 r) := fun {X} e n b o h => by
            rw [cutr_ne (ne_of_none h n)]
            exact e b o h
          have s6 := sc R5.s R5.n
          refine ⟨_, rfl, q D (cutr H6 r) H6 (rows'.map Row1.tb) (same_tr s3 (same_tr s4 (same_tr s5 s6))) ((RS.cut R5.ok).mono (by omega)) ⟨_, s6 _ _ (s5 _ _ B4D), ?_⟩ (by rw [List.length_map]; omega) ?_ ?_ ?_ ?_ ?_⟩
          · rw [← e2, List.map_map]
            refine dps_of fun y hy => ?_
            obtain ⟨j, hj⟩ := List.mem_iff_getElem?.mp hy
            obtain ⟨a1, a2, a3, xs, a4, a5⟩ := M5.at_ j y hj
            exact .tup (sqt s6 a1) (.cons (.str _) (.cons (.int _) (.cons (.lst (Or.inl (Or.inl (by rw [cutr_ne a3.symm]; exact a4))) (dpsm s6 _ _ a5)) .nil)))
          · have en : (rows'.map Row1.tb).map (·.n) = ws := by
              rw [List.map_map]
              exact e1
            refine ⟨?_, by rw [en]; exact W.nodup, ?_, ?_, ?_⟩
            · intro t ht
              exact W.names _ (by rw [← en]; exact List.mem_map.mpr ⟨t, ht, rfl⟩)
            · rw [List.map_map]
              have : (rows'.map fun y => y.rs.length).sum ≤ 12 := by omega
              exact this
            · intro t ht rd hrd
              obtain ⟨y, hy, rfl⟩ := List.mem_map.mp ht
              exact ((e4 y hy).2 rd hrd).1
            · intro t ht rd hrd
              obtain ⟨y, hy, rfl⟩ := List.mem_map.mp ht
              rw [en]
              exact ((e4 y hy).2 rd hrd).2.1
          · intro t ht
            obtain ⟨y, hy, rfl⟩ := List.mem_map.mp ht
            exact W.oks _ (by rw [← e1]; exact List.mem_map.mpr ⟨y, hy, rfl⟩)
          · intro t ht
            obtain ⟨y, hy, rfl⟩ := List.mem_map.mp ht
            exact ⟨(e4 y hy).1, fun rd hrd => ((e4 y hy).2 rd hrd).2.2.1, fun rd hrd => ((e4 y hy).2 rd hrd).2.2.2⟩
          · have hm : ∀ t ∈ rows'.map Row1.tb, t.n ∈ ws := fun t ht => by
              obtain ⟨y, hy, rfl⟩ := List.mem_map.mp ht
              rw [← e1]
              exact List.mem_map.mpr ⟨y, hy, rfl⟩
            exact W.src.imp (fun h t ht => h _ (hm t ht)) fun h t ht => h _ (hm t ht)
          · rw [List.map_map]
            have : (((rows'.map fun y => y.rs.length).sum : Nat) : Int) ≤ most := by omega
            exact this
    · refine ⟨_, rfl, r, 3, _, rfl, R2.ok, by rw [List.length_map]; show m + 6 ≤ _; omega, by decide, by decide, fun d H3 d0 d1 D => ⟨rfl, _, rfl, ?_⟩⟩
      have R3 : RS r (m + 7) B2 H3 := (R2.dr D).mono (by rw [List.length_map]; show m + 6 + 1 ≤ _; omega)
      have hmem : ∀ x ∈ ws0.take many.toNat, x ∈ W0 := fun x hx => pw.mem_iff.mpr (List.mem_of_mem_take hx)
      have htl : (ws0.take many.toNat).length = many.toNat := by
        rw [List.length_take]
        omega
      refine ite2 (fun _ => ?_) (fun _ => ?_)
      · refine ⟨_, rfl, p2, rfl, ⟨_, Or.inl (Or.inl (R3.s _ _ b2at))⟩, fun D hD => lc_flat (walk_list (K := K) (a := p2) (xs := (ws0.take many.toNat).map V.str)) (fun i => .str (row5 (nth (ws0.take many.toNat) i))) (by rw [List.length_map, htl]; omega) hD (fun H' sm => Or.inl (Or.inl (sm _ _ (R3.s _ _ b2at)))) (fun i H x H' y => yat_same y) ?_ ?_⟩
        · rintro i x H4 H5 hi sm ⟨rfl, hx⟩ R hR
          rw [List.getElem?_map] at hx
          obtain ⟨z, hz, rfl⟩ := Option.map_eq_some_iff.mp hx
          have zz := W0_names z (hmem z (List.mem_of_getElem? hz))
          refine ⟨rfl, _, rfl, 5, rfl, z, rfl, Nat.le_trans zz.2.2.1 (by rw [sizeLine_eq]; decide), _, _, rfl, rfl, Nat.le_trans (Nat.add_le_add_left zz.2.2.2.2.2 _) (by rw [sizeLine_eq]; decide +kernel), ?_⟩
          have r := hR H5 same_refl
          rw [nth_of hz] at r
          exact r
        · intro H4 sm hD4
          rw [List.length_map, nthsf] at hD4
          have R4 := (R3.grow sm).keep hD4 (free_of R3.s hD) (R3.ne hD)
          refine ⟨D, _, (ws0.take many.toNat).map row5, rfl, R4, same_tr s02 (snew (free_of R3.s hD)), upd_same, ⟨by rw [List.length_map, htl], ?_, ?_, ?_, Or.inr fun x hx => ?_⟩⟩
          · rw [List.map_take]
            exact ((pw.map row5).nodup_iff.mp W0_nodup5).sublist (List.take_sublist _ _)
          · intro x hx
            obtain ⟨z, hz, rfl⟩ := List.mem_map.mp hx
            exact (W0_names z (hmem z hz)).2.1
          · intro x hx
            obtain ⟨z, hz, rfl⟩ := List.mem_map.mp hx
            exact (W0_names z (hmem z hz)).2.2.2.2.1
          · obtain ⟨z, hz, rfl⟩ := List.mem_map.mp hx
            exact List.mem_map.mpr ⟨z, hmem z hz, rfl⟩
      · exact ⟨p2, B2, _, rfl, R3, s02, b2at, htl, (pw.nodup_iff.mp W0_nodup).sublist (List.take_sublist _ _), fun x hx => (W0_names x (hmem x hx)).1, fun x hx => (W0_names x (hmem x hx)).2.2.2.1, Or.inl hmem⟩
end
end Fr

namespace Fr
open PySem PySem.Spec PyProof.Rows L2
abbrev s_Lfrom : Stmt := topS 38
theorem sc_Lfrom : FnScope ["_law_rows", "_law_here", "_law_inner", "_law_word", "_law_number", "_law_some", "_law_target", "_law_vector_here", "_law_factor", "_law_there", "_law_one", "_law_step"] ["_law_rows", "_law_here"] (defScope s_Lfrom) := ⟨rfl, rfl, rfl, by decide +kernel, rfl, by decide +kernel, by decide +kernel⟩
-- slots: 0 _law_rows, 1 _law_here, 2 _law_inner, 3 _law_word, 4 _law_number, 5 _law_some, 6 _law_target, 7 _law_vector_here, 8 _law_factor, 9 _law_there, 10 _law_one, 11 _law_step
/-- what the law finds, table by table -/
def innx (x : Str) (p : List Int) : List Tb → List (Str × List Int)
  | [] => []
  | t :: ts => (if t.n = x then inner t.rs p else []) ++ innx x p ts
theorem innx_none {x : Str} {p : List Int} : ∀ {ts : List Tb}, x ∉ ts.map (·.n) → innx x p ts = []
  | [], _ => rfl
  | t :: ts, h => by
    unfold innx
    rw [if_neg fun e => h (by rw [← e]; exact List.mem_cons_self), innx_none fun e => h (List.mem_cons_of_mem _ e)]
    rfl
theorem innx_find {x : Str} {p : List Int} : ∀ {ts : List Tb} {tb : Tb}, (ts.map (·.n)).Nodup → ts.find? (fun t => decide (t.n = x)) = some tb → innx x p ts = inner tb.rs p
  | [], _, _, h => by cases h
  | t :: ts, tb, n, h => by
    unfold innx
    rw [List.map_cons, List.nodup_cons] at n
    by_cases hx : t.n = x
    · rw [List.find?_cons_of_pos (by simpa using hx)] at h
      cases h
      rw [if_pos hx, innx_none (by rw [← hx]; exact n.1), List.append_nil]
    · rw [List.find?_cons_of_neg (by simpa using hx)] at h
      rw [if_neg hx, innx_find n.2 h]
      rfl
theorem innx_app {x : Str} {p : List Int} : ∀ (ts us : List Tb), innx x p (ts ++ us) = innx x p ts ++ innx x p us
  | [], us => rfl
  | t :: ts, us => by
    show (if t.n = x then inner t.rs p else []) ++ innx x p (ts ++ us) = ((if t.n = x then inner t.rs p else []) ++ innx x p ts) ++ innx x p us
    rw [innx_app ts us, List.append_assoc]
theorem innx_take {x : Str} {p : List Int} {ts : List Tb} {i : Nat} {t : Tb} (h : ts[i]? = some t) : innx x p (ts.take (i + 1)) = innx x p (ts.take i) ++ (if t.n = x then inner t.rs p else []) := by
  rw [List.take_add_one, h, innx_app]
  show innx x p (ts.take i) ++ ((if t.n = x then inner t.rs p else []) ++ []) = _
  rw [List.append_nil]
theorem innx_len {x : Str} {p : List Int} : ∀ (ts : List Tb), (innx x p ts).length ≤ cnt ts
  | [] => Nat.le_refl _
  | t :: ts => by
    have h := innx_len (x := x) (p := p) ts
    have h2 := inner_len t.rs p
    unfold innx
    have e : cnt (t :: ts) = t.rs.length + cnt ts := by
      unfold cnt
      rw [List.map_cons, List.sum_cons]
    rw [List.length_append, e]
    split
    · omega
    · show 0 + _ ≤ _
      omega
section
variable {P : Program} {w : World} {K : PySem.W.Frag} {mg : Str → Option Value} {base : Heap}
def spLfrom (K : PySem.W.Frag) : Sp := fun vs H Q _ => ∃ (v c : V) (ts : List Tb) (d : Int) (x : Str) (p : List Int) (tb : Tb), vs = [v, c] ∧ Dp K H v (.list (ts.map Tb.d)) ∧ Dp K H c (.tuple [.str x, .tuple (p.map .int)]) ∧ OkT d ts ∧ ts.length ≤ 6 ∧ (p.length : Int) = d ∧ 1 ≤ d ∧ d ≤ 3 ∧
  ts.find? (fun t => decide (t.n = x)) = some tb ∧
  ∀ q H' xs, H q = none → Same H H' → H' q = some (.lst xs) → DpAll K H' xs ((inner tb.rs p).map cellD) → Q (.ref q) H'
theorem ok_from {f : Addr} {fd : FuncData} (F : Fun K "_law_from" "_law_from" s_Lfrom f fd) (T : Txt mg) : FnOk P w K mg base CX0 1 f fd ["_law_rows", "_law_here"] (spLfrom K) := by
  refine F.ok sc_Lfrom (fun vs H Q E h => ?_) (fun cdv A outer sh H vs Q E hr h => ?_)
  · obtain ⟨v, c, ts, d, x, p, tb, rfl, _⟩ := h
    rfl
  · obtain ⟨v, c, ts, d, x, p, tb, rfl, hv, hc, O, hl6, hpl, hd1, hd3, hf, q⟩ := h
    refine ⟨_, (pss_cons (ps_set (i := 2) sc_Lfrom.nd rfl (by first | exact Or.inl rfl | exact Or.inr rfl) (pe_lst pa_nil))
  (pss_cons (ps_for PassesOwn.never rfl (pi_list (pv 0)) (pg_tup rfl (pgs_cons (pg_name (i := 3) sc_Lfrom.nd rfl (by first | exact Or.inl rfl | exact Or.inr rfl)) (pgs_cons (pg_name (i := 4) sc_Lfrom.nd rfl (by first | exact Or.inl rfl | exact Or.inr rfl)) (pgs_cons (pg_name (i := 5) sc_Lfrom.nd rfl (by first | exact Or.inl rfl | exact Or.inr rfl)) pgs_nil))))
    (pss_one (ps_for PassesOwn.never rfl (pi_list (pe_ifExp (pt_cmpR op_eq (pv 3) (pe_ix ix_tup (pv 1) pe_int (fun _ _ => rfl)) (nomark _)) (pv 5) (pe_lst pa_nil))) (pg_tup rfl (pgs_cons (pg_name (i := 6) sc_Lfrom.nd rfl (by first | exact Or.inl rfl | exact Or.inr rfl)) (pgs_cons (pg_name (i := 7) sc_Lfrom.nd rfl (by first | exact Or.inl rfl | exact Or.inr rfl)) (pgs_cons (pg_name (i := 8) sc_Lfrom.nd rfl (by first | exact Or.inl rfl | exact Or.inr rfl)) pgs_nil))))
      (pss_cons (ps_set (i := 9) sc_Lfrom.nd rfl (by first | exact Or.inl rfl | exact Or.inr rfl) (pe_callTy call_tuple_of (by rfl) T.b_tuple (by decide +kernel) (pa_cons (pe_lc (own := [("_law_one", 10), ("_law_step", 11)]) (g := gTup K 2 (gCons (gName 10) (gCons (gName 11) gNil))) (tt := tYes) (by rfl) sc_Lfrom.nd (RZ.pi_zipA (by rfl) T.b_zip (pa_cons (pe_ix ix_tup (pv 1) pe_int (fun _ _ => rfl)) (pa_cons (pv 7) pa_nil))) (blkOk_by (N := ["_law_rows", "_law_here", "_law_inner", "_law_word", "_law_number", "_law_some", "_law_target", "_law_vector_here", "_law_factor", "_law_there", "_law_one", "_law_step"]) (sc := defScope s_Lfrom) (by decide +kernel)) (fun _ _ _ _ _ => (pg_tup rfl (pgs_cons (pg_name (i := 10) sc_Lfrom.nd rfl (by first | exact Or.inl rfl | exact Or.inr rfl)) (pgs_cons (pg_name (i := 11) sc_Lfrom.nd rfl (by first | exact Or.inl rfl | exact Or.inr rfl)) pgs_nil)))) (fun _ _ _ _ _ => pts_nil) (fun _ _ _ _ _ => (pe_op op_sub (pv 10) (pv 11)))) pa_nil)))
      (pss_one (ps_if (pt_cmpR op_ge (pe_callB (cr_minT rfl) (by rfl) T.b_min (by decide +kernel) (pa_cons (pv 9) pa_nil)) pe_int (nomark _))
        (pss_one (ps_expr (pe_bm PySem.F.plainAttrs_list PySem.F.slot_list_append PySem.F.type_list_append mt_append (pv 2) (pa_cons (pe_tup (pa_cons (pv 6) (pa_cons (pv 9) pa_nil))) pa_nil))))
        pss_nil))))))
  (pss_one (ps_ret (pv 2))))), ?_⟩
    obtain ⟨ca, cs, rfl, hct, hcd⟩ := dtup hc
    obtain ⟨x1, x2, rfl, h1, h2⟩ := dps2 hcd
    obtain rfl := dstr h1
    obtain ⟨pa, ps, rfl, hpt, hpd⟩ := dtup h2
    obtain rfl := dps_ints hpd
    obtain ⟨a, rs, rfl, ha, hd⟩ := dlst hv
    have hrl : rs.length = ts.length := by rw [dps_len hd, List.length_map]
    refine ⟨Nat.zero_le _, fun fo hfo => ?_⟩
    have hfl := snew (o := .lst []) hfo
    have few : cnt ts ≤ 12 := O.few
    refine ⟨_, rfl, a, rfl, ⟨rs, sql hfl ha⟩, for_it (walk_list (K := K) (a := a) (xs := rs)) (fun i σ H' => ∃ y3 y4 y5 y6 y7 y8 y9, σ = [some (.ref a), some (.ref ca), some (.ref fo), y3, y4, y5, y6, y7, y8, y9, none, none] ∧
        ∃ (B : Hp) (xs : List V), Same H B ∧ B fo = none ∧ Same B H' ∧ H' fo = some (.lst xs) ∧ DpAll K B xs ((innx x p (ts.take i)).map cellD))
      ⟨none, none, none, none, none, none, none, rfl, H, [], same_refl, hfo, hfl, upd_same, .nil⟩
      (fun i σ H' _ ⟨_, _, _, _, _, _, _, _, B, xs, b1, b2, b3, _⟩ => sql (same_tr b1 b3) ha) ?_ ?_⟩
    · rintro i y σ _ H3 hi ⟨y3, y4, y5, y6, y7, y8, y9, rfl, B, xs, b1, b2, b3, b4, b5⟩ ⟨rfl, hy⟩
      obtain ⟨t, ta, l, ys, f1, rfl, g1, g2, g3⟩ := tb_at (dpsm b1 _ _ hd) hy
      have htm := List.mem_of_getElem? f1
      have hyl : ys.length = t.rs.length := by rw [dps_len g3, List.length_map]
      have hrv : ∀ r ∈ t.rs, (r.v.length : Int) = d := fun r hr' => by
        have h := O.reads t htm r hr'
        unfold isRead at h
        rw [Bool.and_eq_true, Bool.and_eq_true] at h
        exact of_decide_eq_true h.2.1
      have htk := innx_take (x := x) (p := p) f1
      refine ⟨ta, _, rfl, sqt b3 g1, rfl, _, _, rfl, _, _, rfl, _, _, rfl, rfl, ?_⟩
      refine ⟨_, rfl, _, rfl, ca, _, 0, _, rfl, rfl, sqt (same_tr b1 b3) hct, rfl, rfl, _, rfl, ?_⟩
      refine ite2 (fun hb => ?_) (fun hb => ?_)
      · have hx : t.n = x := V.str.inj (of_decide_eq_true hb)
        rw [if_pos hx] at htk
        have hil := innx_len (x := x) (p := p) (ts.take i)
        have hcl := cnt_le ts i
        refine ⟨_, rfl, l, rfl, ⟨ys, sql b3 g2⟩, for_it (walk_list (K := K) (a := l) (xs := ys)) (fun j σ H' => ∃ y6 y7 y8 y9, σ = [some (.ref a), some (.ref ca), some (.ref fo), some (.str t.n), some (.int t.c), some (.ref l), y6, y7, y8, y9, none, none] ∧
            ∃ (B' : Hp) (xs : List V), Same B B' ∧ B' fo = none ∧ Same B' H' ∧ H' fo = some (.lst xs) ∧ DpAll K B' xs ((innx x p (ts.take i) ++ inner (t.rs.take j) p).map cellD))
          ⟨y6, y7, y8, y9, rfl, B, xs, same_refl, b2, b3, b4, by rw [show inner (t.rs.take 0) p = [] from rfl, List.append_nil]; exact b5⟩
          (fun j σ H' _ ⟨_, _, _, _, _, B', xs, c1, c2, c3, _⟩ => sql (same_tr c1 c3) g2) ?_ ?_⟩
        · rintro j y σ _ H4 hj ⟨y6, y7, y8, y9, rfl, B', xs, c1, c2, c3, c4, c5⟩ ⟨rfl, hy⟩
          obtain ⟨r, ra, rb, e1, rfl, _, e3, e4⟩ := rd_at (dpsm c1 _ _ g3) hy
          have hrv' : (r.v.length : Int) = d := hrv r (List.mem_of_getElem? e1)
          refine ⟨ra, _, rfl, sqt c3 e3, rfl, _, _, rfl, _, _, rfl, _, _, rfl, rfl, ?_⟩
          have sHB : Same H H4 := same_tr b1 (same_tr c1 c3)
          have hpt3 : SqT K H4 pa (p.map V.int) := sqt sHB hpt
          have hvt3 : SqT K H4 rb (r.v.map V.int) := sqt c3 e4
          have hmin : min (p.map V.int).length (r.v.map V.int).length = min p.length r.v.length := by rw [List.length_map, List.length_map]
          refine ⟨_, rfl, ca, _, 1, _, rfl, rfl, sqt sHB hct, rfl, _, rfl, pa, rb, p.map V.int, r.v.map V.int, rfl, Or.inr ⟨hpt3, hvt3, fun D hD => lc_flat (walk_zipT (K := K) (a := pa) (b := rb) (xs := p.map V.int) (ys := r.v.map V.int) hmin.symm) (fun j => .int ((minus p r.v).getD j 0)) (by omega) hD (fun H' sm => ⟨sqt sm hpt3, sqt sm hvt3⟩) (fun i H x H' y => ypair_same y) ?_ ?_⟩⟩
          · rintro k z Ha Hb hk sm ⟨Tp, z1, z2, rfl, hT, rfl, f1, f2⟩ R hR
            have f1' : (p.map V.int)[k]? = some z1 := f1
            have f2' : (r.v.map V.int)[k]? = some z2 := f2
            rw [List.getElem?_map] at f1' f2'
            obtain ⟨n1, k1, rfl⟩ := Option.map_eq_some_iff.mp f1'
            obtain ⟨n2, k2, rfl⟩ := Option.map_eq_some_iff.mp f2'
            have em := minus_at k1 k2
            refine ⟨Tp, _, rfl, Or.inl (Or.inl upd_same), rfl, _, _, rfl, _, _, rfl, rfl, rfl, _, rfl, _, rfl, n1, n2, rfl, rfl, ?_⟩
            have r' := hR _ same_refl
            rw [em] at r'
            exact r'
          · intro H5 s4 hD4
            rw [minus_range] at hD4
            refine ⟨D, _, rfl, Or.inl ⟨Or.inl (Or.inl hD4), fun u0 ht => ?_⟩⟩
            have hml : (minus p r.v).length = p.length := by
              unfold minus
              rw [List.length_zipWith]
              omega
            have b4' : Same B' H5 := same_tr c3 s4
            have bt : B' u0 = none := free_of b4' ht
            have s5 : Same (upd B' u0 (.tup ((minus p r.v).map V.int))) (upd H5 u0 (.tup ((minus p r.v).map V.int))) := sgrow b4'
            have nt : u0 ≠ fo := fun z => by
              rw [z, s4 _ _ c4] at ht
              cases ht
            have fo5 : (upd H5 u0 (.tup ((minus p r.v).map V.int))) fo = some (.lst xs) := by
              rw [upd_ne nt.symm]
              exact s4 _ _ c4
            have hxl : xs.length ≤ 1000 := by
              rw [dps_len c5, List.length_map, List.length_append]
              have h1 := inner_len (t.rs.take j) p
              rw [List.length_take] at h1
              have h2 := few_reads O htm
              omega
            refine ⟨_, rfl, u0, minus p r.v, rfl, Or.inl (Or.inl upd_same), by omega, fun mn hm hle => ⟨mn, 0, rfl, rfl, decide (0 ≤ mn), rfl, ?_⟩⟩
            have hall : (minus p r.v).all (fun i => decide (0 ≤ i)) = decide (0 ≤ mn) := by
              by_cases h : 0 ≤ mn
              · rw [decide_eq_true h, List.all_eq_true]
                intro z hz
                have := hle z hz
                exact decide_eq_true (by omega)
              · rw [decide_eq_false h, List.all_eq_false]
                exact ⟨mn, hm, by simpa using h⟩
            have htk2 := inner_take (p := p) e1
            rw [hall] at htk2
            have bt5 : Same B' (upd B' u0 (.tup ((minus p r.v).map V.int))) := snew bt
            cases hq : decide (0 ≤ mn) with
            | false =>
              rw [hq, if_neg Bool.false_ne_true, List.append_nil] at htk2
              refine iteF ?_
              refine ⟨some (.str r.t), some (.ref rb), some (.int r.f), some (.ref u0), rfl, upd B' u0 (.tup ((minus p r.v).map V.int)), xs, same_tr c1 bt5, ?_, s5, fo5, ?_⟩
              · rw [upd_ne nt.symm]
                exact c2
              · rw [htk2]
                exact dpsm bt5 _ _ c5
            | true =>
              rw [hq, if_pos rfl] at htk2
              refine iteT ?_
              refine ⟨_, rfl, Or.inl ⟨rfl, _, Or.inl (Or.inl fo5)⟩, _, rfl, _, rfl, (by show 2 ≤ sizeLine; decide), fun u hu => ?_⟩
              have nu : u ≠ fo := fun z => by
                rw [z, fo5] at hu
                cases hu
              have bu := free_of s5 hu
              have s6 : Same (upd (upd B' u0 (.tup ((minus p r.v).map V.int))) u (.tup [.str r.t, .ref u0])) (upd (upd H5 u0 (.tup ((minus p r.v).map V.int))) u (.tup [.str r.t, .ref u0])) := sgrow s5
              have bfo : (upd (upd B' u0 (.tup ((minus p r.v).map V.int))) u (.tup [.str r.t, .ref u0])) fo = none := by
                rw [upd_ne nu.symm, upd_ne nt.symm]
                exact c2
              refine ⟨fo, xs, _, rfl, rfl, by rw [upd_ne nu.symm]; exact fo5, small1000 hxl, ?_⟩
              have bu6 : Same B' (upd (upd B' u0 (.tup ((minus p r.v).map V.int))) u (.tup [.str r.t, .ref u0])) := same_tr bt5 (snew bu)
              refine ⟨some (.str r.t), some (.ref rb), some (.int r.f), some (.ref u0), rfl, _, xs ++ [.ref u], same_tr c1 bu6, bfo, swrite s6 bfo, upd_same, ?_⟩
              rw [htk2, ← List.append_assoc, List.map_append]
              refine dps_snoc (dpsm bu6 _ _ c5) (.tup (Or.inl (Or.inl upd_same)) (.cons (.str _) (.cons (.tup (Or.inl (Or.inl ?_)) (ints_dps _)) .nil)))
              rw [upd_ne (ne_of_none upd_same bu)]
              exact upd_same
        · rintro σ H4 ⟨y6, y7, y8, y9, rfl, B', xs, c1, c2, c3, c4, c5⟩
          rw [hyl, List.take_length, ← htk] at c5
          exact ⟨_, _, _, _, _, _, _, rfl, B', xs, same_tr b1 c1, c2, c3, c4, c5⟩
      · have hx : ¬ t.n = x := fun e => hb (by rw [e]; exact decide_eq_true rfl)
        rw [if_neg hx, List.append_nil] at htk
        refine ⟨Nat.zero_le _, fun e he => ⟨e, rfl, ⟨[], Or.inl (Or.inl upd_same)⟩, for_it (walk_list (K := K) (a := e) (xs := [])) (fun j σ H' => σ = [some (.ref a), some (.ref ca), some (.ref fo), some (.str t.n), some (.int t.c), some (.ref l), y6, y7, y8, y9, none, none] ∧ H' = upd H3 e (.lst []))
          ⟨rfl, rfl⟩ (fun j σ H' _ ⟨_, h⟩ => by rw [h]; exact Or.inl (Or.inl upd_same)) (fun j y σ H4 H5 hj => absurd hj (Nat.not_lt_zero _)) ?_⟩⟩
        rintro σ H4 ⟨rfl, rfl⟩
        refine ⟨_, _, _, _, _, _, _, rfl, B, xs, b1, b2, same_tr b3 (snew he), ?_, by rw [htk]; exact b5⟩
        rw [upd_ne (ne_of_none b4 he)]
        exact b4
    · rintro σ H3 ⟨y3, y4, y5, y6, y7, y8, y9, rfl, B, xs, b1, b2, b3, b4, b5⟩
      rw [hrl, List.take_length, innx_find O.nodup hf] at b5
      refine ⟨_, rfl, q fo H3 xs hfo (same_tr b1 b3) b4 (dpsm b3 _ _ b5)⟩
end
end Fr

namespace Fr
open PySem PySem.Spec PyProof.Rows L2
def kw2 {α : Type} : List α → List α → List α
  | [], [c, s] => [s, c]
  | _, _ => []
structure CalK (P : Program) (w : World) (K : PySem.W.Frag) (mg : Str → Option Value) (base : Heap) (k : Nat) (x : Str) (sp : Sp) (ks : List Str) (gV : List V → List V → List V) : Prop where
  ex : ∃ (f : Addr) (fd : FuncData) (ps : List Str) (g : List Value → List Value → List Value), FnOk P w K mg base CX0 k f fd ps sp ∧ mg x = some (.ref f) ∧ PySem.W.keepIn K (.ref f) = true ∧ KBinds K fd ps ks g gV
theorem pe_ck {X : Cx} {k j : Nat} {x : Str} {sp : Sp} {ks : List Str} {gV : List V → List V → List V} {kws : List Keyword} {tk : TA} {p pos : Pos} (c : CalK X.prog X.w X.K X.mg X.base k x sp ks gV) (hr : Room j X.A) (hk : k ≤ j) (hg : Gl X x) (hkw : PK X kws tk)
    (hall : (backToKw pos (keywordEach kws X.env)).all (·.1.isSome) = true := by rfl) (hks : (backToKw pos (keywordEach kws X.env)).filterMap (·.1) = ks := by rfl) (hdb : (x == ("__debug__" : Str)) = false := by decide)
    (hpl : ((backTo pos (starEach [] X.env)).any (·.1) || (backToKw pos (keywordEach kws X.env)).any (·.1.isNone)) = false := by rfl) :
    PE X (.Call (.Name x p) [] kws pos) (tCallK sp gV C8.E0 tNil tk) := by
  obtain ⟨f, fd, ps, g, F, hm, kp, hb⟩ := c.ex
  refine ⟨fun pins s σ H Q I h => ?_⟩
  refine wpAny_Call_Name_kw (ld_glob I hg hm ?_ hdb)
  refine PySem.W.callWith_KW0 (h₀ := X.base) I.ok.mod.kin kp hall (thn (hkw.run pos pins s σ H _ I h) fun ws s2 ⟨zs, H2, I2, rz, q2⟩ => ⟨I2.kIn, ?_⟩) hpl
  rw [hks]
  exact run_fnk (us := []) (vs := []) F (hr.mono hk) hb pass0 I2 .nil rz q2
def bs (H : Hp) (r : Addr) : Hp := fun b => if b = r then none else match H b with
  | some (.tbl _) => none
  | o => o
theorem bs_of {H : Hp} {r b : Addr} {o : HO} (h : H b = some o) (n : b ≠ r) (t : ∀ ps, o ≠ .tbl ps) : bs H r b = some o := by
  unfold bs
  rw [if_neg n, h]
  cases o <;> first | rfl | exact absurd rfl (t _)
theorem of_bs {H : Hp} {r b : Addr} {o : HO} (h : bs H r b = some o) : H b = some o ∧ b ≠ r ∧ ∀ ps, o ≠ .tbl ps := by
  unfold bs at h
  by_cases n : b = r
  · rw [if_pos n] at h
    cases h
  · rw [if_neg n] at h
    cases e : H b with
    | none =>
      rw [e] at h
      cases h
    | some u =>
      rw [e] at h
      cases u <;> first | (cases h; exact ⟨rfl, n, fun ps z => by cases z⟩) | cases h
structure LS (TT : List (Addr × Str)) (r : Addr) (m : Nat) (B H : Hp) : Prop where
  rs : RS r m B H
  tb : LamX.Tabs TT H
  nt : ∀ b ps, B b ≠ some (.tbl ps)
theorem tabs_dr {TT : List (Addr × Str)} {r : Addr} {m m' : Nat} {H H' : Hp} (hT : LamX.Tabs TT H) (h : RngOk H r m) (d : Dr r m' H H') : LamX.Tabs TT H' := by
  obtain ⟨a, b, c, h1, _⟩ := h
  obtain ⟨a', b', c', h2, _⟩ := d.ok
  have e : H' = upd H r (.lst [.int a', .int b', .int c']) := funext fun x => by
    by_cases hx : x = r
    · rw [hx, h2, upd_same]
    · rw [upd_ne hx, d.ne x hx]
  rw [e]
  exact tabs_lst hT h1
theorem LS.dr {TT : List (Addr × Str)} {r : Addr} {m m' : Nat} {B H H' : Hp} (h : LS TT r m B H) (d : Dr r m' H H') : LS TT r m' B H' := ⟨h.rs.dr d, tabs_dr h.tb h.rs.ok d, h.nt⟩
theorem LS.new {TT : List (Addr × Str)} {r p : Addr} {m : Nat} {B H : Hp} {o : HO} (h : LS TT r m B H) (e : H p = none) : LS TT r m B (upd H p o) := ⟨h.rs.new e, h.tb.ext (snew e), h.nt⟩
theorem LS.grow {TT : List (Addr × Str)} {r : Addr} {m : Nat} {B H H' : Hp} (h : LS TT r m B H) (e : Same H H') : LS TT r m B H' := ⟨h.rs.grow e, h.tb.ext e, h.nt⟩
theorem LS.put {TT : List (Addr × Str)} {r p : Addr} {m : Nat} {B H : Hp} {o : HO} {xs : List V} (h : LS TT r m B H) (e : B p = none) (n : r ≠ p) (l : H p = some (.lst xs)) : LS TT r m B (upd H p o) := ⟨h.rs.put e n, tabs_lst h.tb l, h.nt⟩
theorem LS.mono {TT : List (Addr × Str)} {r : Addr} {m m' : Nat} {B H : Hp} (h : LS TT r m B H) (e : m ≤ m') : LS TT r m' B H := ⟨h.rs.mono e, h.tb, h.nt⟩
/-- a base of its own -/
theorem LS.own {TT : List (Addr × Str)} {r : Addr} {m : Nat} {H : Hp} (h : RngOk H r m) (t : LamX.Tabs TT H) : LS TT r m (bs H r) H := ⟨⟨fun b o e => (of_bs e).1, by
  cases e : bs H r r with
  | none => rfl
  | some o => exact absurd rfl (of_bs e).2.1, h⟩, t, fun b ps e => (of_bs e).2.2 ps rfl⟩
theorem tabs_cut {TT : List (Addr × Str)} {r : Addr} {m : Nat} {H H' : Hp} (hT : LamX.Tabs TT H) (h : RngOk H r m) (s : Same (cutr H r) H') : LamX.Tabs TT H' := by
  obtain ⟨a, b, c, h1, _⟩ := h
  intro p hp
  obtain ⟨ps, e1, e2, e3⟩ := hT p hp
  refine ⟨ps, s _ _ ?_, e2, fun pos cv hc => ?_⟩
  · rw [cutr_ne fun z => by rw [z, h1] at e1; cases e1]
    exact e1
  · obtain ⟨c', f1, f2⟩ := e3 pos cv hc
    refine ⟨c', f1, s _ _ ?_⟩
    rw [cutr_ne fun z => by rw [z, h1] at f2; unfold LamX.CodeO at f2; cases f2]
    exact f2
def tupo : HO → Bool
  | .tup _ => true
  | .frz _ (.tup _) => true
  | _ => false
def ST (H H' : Hp) : Prop := ∀ b o, H b = some o → tupo o = true → H' b = some o
theorem ST.of {H H' : Hp} (e : Same H H') : ST H H' := fun b o h _ => e b o h
theorem ST.tr {A B C : Hp} (a : ST A B) (b : ST B C) : ST A C := fun x o h d => b x o (a x o h d) d
theorem ST.put {H : Hp} {l : Addr} {xs : List V} {o : HO} (h : H l = some (.lst xs)) : ST H (upd H l o) := fun b u e d => by
  rw [upd_ne fun z => by rw [z, h] at e; cases e; cases d]
  exact e
theorem ST.dr {H H' : Hp} {r : Addr} {m m' : Nat} (h : RngOk H r m) (d : Dr r m' H H') : ST H H' := fun b u e t => by
  obtain ⟨x, y, z, h1, _⟩ := h
  rw [d.ne b fun q => by rw [q, h1] at e; cases e; cases t]
  exact e
theorem ST.bs {H : Hp} {r : Addr} {m : Nat} (h : RngOk H r m) : ST H (Fr.bs H r) := fun b u e t => by
  obtain ⟨x, y, z, h1, _⟩ := h
  refine bs_of e (fun q => ?_) fun ps q => ?_
  · rw [q, h1] at e
    cases e
    cases t
  · rw [q] at t
    cases t
mutual
def noL : PyData → Bool
  | .list _ => false
  | .tuple ds => noLs ds
  | .dict _ => false
  | .none => true
  | .bool _ => true
  | .int _ => true
  | .str _ => true
def noLs : List PyData → Bool
  | [] => true
  | d :: ds => noL d && noLs ds
end
theorem noLs_map {α : Type} {g : α → PyData} (h : ∀ x, noL (g x) = true) : ∀ xs : List α, noLs (xs.map g) = true
  | [] => rfl
  | x :: xs => by
    show (noL (g x) && noLs (xs.map g)) = true
    rw [h x, noLs_map h xs]
    rfl
theorem noL_ints (ns : List Int) : noLs (ns.map PyData.int) = true := noLs_map (fun _ => rfl) ns
theorem noL_rd (r : Rd1) : noL r.d = true := by
  show (true && (noLs (r.v.map PyData.int) && (true && true))) = true
  rw [noL_ints]
  rfl
theorem noL_k (t : Tb) : noL t.k = true := by
  show (true && (noLs (t.rs.map Rd1.d) && true)) = true
  rw [noLs_map noL_rd]
  rfl
section
variable {K : PySem.W.Frag}
theorem sqtt {H H' : Hp} (e : ST H H') {a : Addr} {xs : List V} (h : SqT K H a xs) : SqT K H' a xs := by
  rcases h with (h | ⟨o, h⟩) | h
  · exact .inl (.inl (e _ _ h rfl))
  · exact .inl (.inr ⟨o, e _ _ h rfl⟩)
  · exact .inr h
mutual
theorem dpt {H H' : Hp} (e : ST H H') : ∀ (d : PyData) (v : V), noL d = true → Dp K H v d → Dp K H' v d
  | .none, _, _, h => by cases h; exact .non
  | .bool b, _, _, h => by cases h; exact .bl b
  | .int i, _, _, h => by cases h; exact .int i
  | .str x, _, _, h => by cases h; exact .str x
  | .list ds, _, n, h => by cases n
  | .tuple ds, _, n, h => by
    cases h with
    | tup hs ha => exact .tup (sqtt e hs) (dpst e ds _ n ha)
  | .dict _, _, _, h => by cases h
theorem dpst {H H' : Hp} (e : ST H H') : ∀ (ds : List PyData) (vs : List V), noLs ds = true → DpAll K H vs ds → DpAll K H' vs ds
  | [], _, _, h => by cases h; exact .nil
  | d :: ds, _, n, h => by
    have n' : (noL d && noLs ds) = true := n
    rw [Bool.and_eq_true] at n'
    cases h with
    | cons h1 h2 => exact .cons (dpt e d _ n'.1 h1) (dpst e ds _ n'.2 h2)
end
theorem kvt {H H' : Hp} (e : ST H H') : ∀ {kvs : List (Key × V)} {ts : List Tb}, KvAt K H kvs ts → KvAt K H' kvs ts
  | [], _, h => by cases h; exact .nil
  | kv :: kvs, _, h => by
    cases h with
    | cons h1 h2 => exact .cons ⟨h1.1, dpt e _ _ (noL_k _) h1.2⟩ (kvt e h2)
end
section
variable {P : Program} {w : World} {K : PySem.W.Frag} {mg : Str → Option Value} {base : Heap}
theorem sd_bs {B H : Hp} {r : Addr} (s : Same B H) (n : B r = none) : SD B (bs H r) := fun b o h d => bs_of (s b o h) (ne_of_none h n) fun ps z => by
  rw [z] at d
  cases d
theorem SysAt.bs {C : Addr} {H : Hp} {r s : Addr} {m : Nat} {d md : Int} {ts : List Tb} (h : SysAt K C H s d md ts) (hr : RngOk H r m) (e : ∀ kvs, KvAt K H kvs ts → KvAt K (Fr.bs H r) kvs ts) : SysAt K C (Fr.bs H r) s d md ts := by
  obtain ⟨dx, t, kvs, h1, h2, h3⟩ := h.ob
  obtain ⟨a, b, c, h4, _⟩ := hr
  refine ⟨dx, t, kvs, bs_of h1 (fun z => ?_) (fun ps z => by cases z), bs_of h2 (fun z => ?_) (fun ps z => by cases z), e _ h3⟩
  · rw [z, h4] at h1
    cases h1
  · rw [z, h4] at h2
    cases h2
theorem find_nodup {x : Str} : ∀ {ts : List Tb} {tb : Tb}, (ts.map (·.n)).Nodup → tb ∈ ts → tb.n = x → ts.find? (fun t => decide (t.n = x)) = some tb
  | [], _, _, h, _ => by cases h
  | t :: ts, tb, n, h, e => by
    rw [List.map_cons, List.nodup_cons] at n
    rcases List.mem_cons.mp h with rfl | h
    · exact List.find?_cons_of_pos (by simpa using e)
    · rw [List.find?_cons_of_neg fun z => n.1 (by
        have : t.n = x := of_decide_eq_true z
        rw [this, ← e]
        exact List.mem_map.mpr ⟨tb, h, rfl⟩)]
      exact find_nodup n.2 h e
end
end Fr

namespace Fr
open PySem PySem.Spec PyProof.Rows L2
theorem noL_cell (c : Str × List Int) : noL (cellD c) = true := by
  show (true && (noLs (c.2.map PyData.int) && true)) = true
  rw [noL_ints]
  rfl
section
variable {P : Program} {w : World} {K : PySem.W.Frag} {mg : Str → Option Value} {base : Heap}
theorem good_cell {c : Str × List Int} (h : PyData.strOk c.1 = true) : Good (cellD c) := by
  have hi : ∀ ns : List Int, PyData.canLayAll0 (ns.map PyData.int) = true ∧ PyData.depthAll (ns.map PyData.int) = 0 := by
    intro ns
    induction ns with
    | nil => exact ⟨by simp [PyData.canLayAll0], by simp [PyData.depthAll]⟩
    | cons n ns ih => exact ⟨by simp [PyData.canLayAll0, PyData.canLay0, ih.1], by simp [PyData.depthAll, PyData.depth, ih.2]⟩
  obtain ⟨h1, h2⟩ := hi c.2
  unfold cellD Good
  exact ⟨by simp [PyData.canLay0, PyData.canLayAll0, h, h1], by simp [PyData.depth, PyData.depthAll, h2]⟩
/-- a list of cells that may still be changed -/
def DL (K : PySem.W.Frag) (H : Hp) (l : Addr) (cs : List (Str × List Int)) : Prop := ∃ xs, H l = some (.lst xs) ∧ DpAll K H xs (cs.map cellD)
theorem DL.step {H H' : Hp} {l : Addr} {cs : List (Str × List Int)} (h : DL K H l cs) (e : ST H H') (n : H' l = H l) : DL K H' l cs := by
  obtain ⟨xs, h1, h2⟩ := h
  exact ⟨xs, by rw [n, h1], dpst e _ _ (noLs_map noL_cell _) h2⟩
theorem DL.grow {H H' : Hp} {l : Addr} {cs : List (Str × List Int)} (h : DL K H l cs) (e : Same H H') : DL K H' l cs := by
  obtain ⟨xs, h1, h2⟩ := h
  exact ⟨xs, e _ _ h1, dpsm e _ _ h2⟩
theorem DL.dp {H : Hp} {l : Addr} {cs : List (Str × List Int)} (h : DL K H l cs) : Dp K H (.ref l) (.list (cs.map cellD)) := by
  obtain ⟨xs, h1, h2⟩ := h
  exact .lst (Or.inl (Or.inl h1)) h2
theorem DL.len {H : Hp} {l : Addr} {cs : List (Str × List Int)} (h : DL K H l cs) : ∃ xs, H l = some (.lst xs) ∧ xs.length = cs.length := by
  obtain ⟨xs, h1, h2⟩ := h
  exact ⟨xs, h1, by rw [dps_len h2, List.length_map]⟩
theorem eqv_cells (cs : List (Str × List Int)) (h : ∀ c ∈ cs, PyData.strOk c.1 = true) : SeqAt.shaped (.list (cs.map cellD)) = true ∧ PyData.eqv (.list (cs.map cellD)) (.list (cs.map cellD)) = true := by
  have s : SeqAt.shaped (.list (cs.map cellD)) = true := shaped_list fun d hd => by
    obtain ⟨c, hc, rfl⟩ := List.mem_map.mp hd
    exact good_cell (h c hc)
  exact ⟨s, SeqAt.eqv_refl _ (SeqAt.canLay_of_shaped s)⟩
theorem inner_ok {rs : List Rd1} {p : List Int} (h : ∀ r ∈ rs, PyData.strOk r.t = true) : ∀ c ∈ inner rs p, PyData.strOk c.1 = true := by
  intro c hc
  unfold inner at hc
  obtain ⟨r, hr, e⟩ := List.mem_filterMap.mp hc
  split at e
  · cases e
    exact h r hr
  · cases e
end
end Fr

namespace Fr
open PySem PySem.Spec PyProof.Rows L2
/-- room, and nothing under repr -/
structure RoomG (k : Nat) (A : Around) : Prop where
  room : Room k A
  free : A.guards = some []
structure FnG (P : Program) (w : World) (K : PySem.W.Frag) (mg : Str → Option Value) (base : Heap) (k : Nat) (f : Addr) (fd : FuncData) (ps : List Str) (sp : Sp) : Prop where
  len : ∀ vs H Q E, sp vs H Q E → vs.length = ps.length
  go : ∀ (A : Around) (outer : List Env) (s : Shared) (H : Hp) (args : Args) (us : List Value) (vs : List V) (Q : VK) (E : XK), RoomG k A → Env0 P w K mg base A outer s H → BindsTo s fd args (ps.zip us) → Vals vs us → sp vs H Q E → codeAny (model P w) A (.call (.ref f) args) (CR CX0 outer P w H s Q E) s
section
variable {P : Program} {w : World} {K : PySem.W.Frag} {mg : Str → Option Value} {base : Heap}
/-- a def by its body -/
theorem fnG_of {k : Nat} {f : Addr} {x qual : Str} {pa : Arguments} {body : List Stmt} {sc : Scope} {dV kV doc pm cd ct oc : Value} {an od : Option Addr} {osl : Array (Option Value)} {N ps : List Str} {sp : Sp}
    (lk : K.lookup f = some ⟨oc, od, .func (PySem.W.fnOf x qual pa body sc dV kV doc pm an cd ct), osl⟩) (hcd : PySem.W.codeIn K cd qual = true) (S : FnScope N ps sc) (len : ∀ vs H Q E, sp vs H Q E → vs.length = ps.length)
    (hb : ∀ (A : Around) (outer : List Env) (s : Shared) (H : Hp) (vs : List V) (Q : VK) (E : XK), RoomG k (A.deeper (envOfC qual sc s.heap.objs.size f cd)) → sp vs H Q E → ∃ t, PSs (cxOf CX0 P w K mg base N qual sc f cd A outer s H E) body t ∧ t { nx := fun _ H' => Q .non H', rt := Q } (start N vs) H) :
    FnG P w K mg base (k + 1) f (PySem.W.fnOf x qual pa body sc dV kV doc pm an cd ct) ps sp where
  len := len
  go A outer s H args us vs Q E hr e0 bt rv hq := by
    have h1 : vs.length = ps.length := len _ _ _ _ hq
    have inK : K.In s.heap := e0.mod.kin.keeps fun b o z => (e0.bs b o z).1
    have noL : s.heap.NoLimit := e0.mod.nolimit.keeps fun b o z => (e0.bs b o z).1
    have kinds : ∀ y ∈ ps.zip us, sc.names.lookup y.1 = some .local ∨ (sc.names.lookup y.1 = some .cell ∧ ((cellsFrom (s.heap.objs.size + 1) sc.names []).lookup y.1).isSome = true) := by
      intro y hy
      obtain ⟨n, v⟩ := y
      cases S.par n (List.of_mem_zip hy).1 with
      | inl z => exact Or.inl z
      | inr z => exact Or.inr ⟨z, PySem.W.cellsFrom_some _ _ _ (Or.inl z)⟩
    refine codeAny_call_function hr.room.depth (inK _ _ lk) rfl S.co S.gen rfl (PySem.W.codeRec_of inK hcd) (bt _ _ _ _ (wpAny_newFunctionEnv_cells S.kind kinds ?_))
    rintro _ rfl s1 ic
    refine ⟨noL.keeps ic.toInCall.keep, codeAny_func ?_⟩
    obtain ⟨t, pt, ht⟩ := hb A outer s H vs Q E ⟨hr.room.deeper _, hr.free⟩ hq
    have I0 := inv_start (CX := CX0) (E := E) S hr.room.hd e0 h1 rv ic
    refine wpAny_mono (pt.run [] s1 (start N vs) H _ I0 ht) (fun fl s2 z => ?_) fun _ _ z => z
    cases fl with
    | next =>
      obtain ⟨_, H2, J, q⟩ := z
      exact ⟨V.non, H2, J.os, J.bare, J.base, J.hok, rfl, q⟩
    | ret u =>
      obtain ⟨v, _, H2, J, ru, q⟩ := z
      exact ⟨v, H2, J.os, J.bare, J.base, J.hok, ru, q⟩
    | brk => exact z.elim fun _ z => z.elim fun _ z => z.2.elim
    | cont => exact z.elim fun _ z => z.elim fun _ z => z.2.elim
theorem Fun_okG {x qual : Str} {st : Stmt} {f : Addr} {fd : FuncData} {N ps : List Str} {k : Nat} {sp : Sp} (F : Fun K x qual st f fd) (S : FnScope N ps (defScope st)) (len : ∀ vs H Q E, sp vs H Q E → vs.length = ps.length)
    (hb : ∀ (cd : Value) (A : Around) (outer : List Env) (s : Shared) (H : Hp) (vs : List V) (Q : VK) (E : XK), RoomG k (A.deeper (envOfC qual (defScope st) s.heap.objs.size f cd)) → sp vs H Q E →
      ∃ t, PSs (cxOf CX0 P w K mg base N qual (defScope st) f cd A outer s H E).nox (defBody st) t ∧ t { nx := fun _ H' => Q .non H', rt := Q } (start N vs) H) : FnG P w K mg base (k + 1) f fd ps sp := by
  obtain ⟨oc, od, kV, doc, pm, an, cd, ct, osl, rfl, lk, hcd⟩ := F.ex
  refine fnG_of lk hcd S len fun A outer s H vs Q E hr hq => ?_
  obtain ⟨t, pt, ht⟩ := hb cd A outer s H vs Q E hr hq
  exact ⟨t, pt.nox, ht⟩
/-- a def of this kind that may be called by its name -/
structure CalG (P : Program) (w : World) (K : PySem.W.Frag) (mg : Str → Option Value) (base : Heap) (k : Nat) (x : Str) (sp : Sp) : Prop where
  ex : ∃ (f : Addr) (fd : FuncData) (ps : List Str), FnG P w K mg base k f fd ps sp ∧ mg x = some (.ref f) ∧ PySem.W.keepIn K (.ref f) = true ∧ Binds K fd ps []
end
section
variable {X : Cx} {k j : Nat} {x : Str} {sp : Sp} {p pos : Pos} {e : Expr} {es : List Expr} {t : TA}
theorem pe_cG (c : CalG X.prog X.w X.K X.mg X.base k x sp) (hr : RoomG j X.A) (hk : k ≤ j) (hg : Gl X x) (ha : PA X (e :: es) t) (hdb : (x == ("__debug__" : Str)) = false := by decide)
    (he : starEach (e :: es) X.env = (false, eval e X.env) :: starEach es X.env := by rfl) (hpl : (backTo pos (starEach es X.env)).any (·.1) = false := by rfl) : PE X (.Call (.Name x p) (e :: es) [] pos) (tCall sp [] C8.E0 t) := by
  obtain ⟨f, fd, ps, F, hm, kp, hb⟩ := c.ex
  constructor
  intro pins s σ H Q I h
  refine wpAny_Call_Name_kw (ld_glob I hg hm (PySem.W.callWith_K (h₀ := X.base) I.ok.mod.kin kp (thn (ha.run pos pins s σ H _ I h) ?_) he hpl) hdb)
  rintro us s1 ⟨vs, H1, I1, r, q⟩
  refine ⟨I1.kIn, wpAny_call ?_⟩
  have r2 : Vals (vs ++ []) (us ++ []) := r.append .nil
  have hl : (us ++ ([] : List Value)).length = ps.length := r2.length.symm.trans (F.len _ _ _ _ q)
  refine codeAny_mono (F.go X.A X.stack s1 H1 ⟨us, []⟩ (us ++ []) (vs ++ []) Q C8.E0 ⟨hr.room.mono hk, hr.free⟩ I1.env0 (hb s1 us I1.kIn hl) r2 q) fun rs s2 z => ?_
  match rs, z with
  | .error er, z => exact pass0 (X := X) pins σ H1 s1 er s2 I1 z
  | .ok (.ret u), z => exact I1.after z
  | .ok .next, z => exact z.elim
  | .ok .brk, z => exact z.elim
  | .ok .cont, z => exact z.elim
/-- repr(e), e plain data -/
def rReprD (K : PySem.W.Frag) : List V → Hp → VK → Prop := fun xs H Q => ∃ (v : V) (d : PyData), xs = [v] ∧ Dp K H v d ∧ d.canLay0 = true ∧ d.showable = true ∧ d.depth ≤ 60 ∧ ((∃ i, d = .int i) ∨ d.shown.length ≤ sizeLine) ∧ Q (.str d.shown) H
theorem call_reprD (hg : X.A.guards = some []) (hu : X.A.units + 65 < cLine) : CallR X (.builtin "repr") (rReprD X.K) := by
  intro pins s σ H xs us Q I r h
  obtain ⟨v, d, rfl, hd, hc, hs, h6, hz, q⟩ := h
  obtain ⟨u, rfl, ru⟩ := vals1 r
  obtain ⟨as, rd⟩ := Dp.reads I d v u hd ru
  cases hd with
  | non =>
    cases (show u = Value.none from ru)
    simp only [PyData.shown] at q hz
    exact P.repr_of_none ⟨.str _, H, I.tok _, ⟨_, rfl⟩, q⟩
  | bl b =>
    cases (show u = Value.bool b from ru)
    simp only [PyData.shown] at q hz
    refine P.repr_of_bool ⟨.str _, H, I.tok _, ⟨_, rfl⟩, ?_⟩
    cases b <;> exact q
  | int i =>
    obtain ⟨t, rfl⟩ := (show ∃ t, u = Value.int i t from ru)
    simp only [PyData.shown] at q hz
    simp only [PyData.showable] at hs
    exact P.repr_of_int (of_decide_eq_true hs) ⟨.str _, H, I.tok _, ⟨_, rfl⟩, q⟩
  | str y =>
    obtain ⟨t, rfl⟩ := (show ∃ t, u = Value.str y t from ru)
    simp only [PyData.shown] at q hz
    exact P.repr_of_str ⟨.str _, H, I.tok _, ⟨_, rfl⟩, q⟩ (hz.resolve_left fun ⟨_, z⟩ => by cases z)
  | lst hq ha =>
    cases (show u = Value.ref _ from ru)
    exact repr_of_reads' rd hs (PyData.noDict_hsm (PyData.hasDict_of_canLay _ hc)) hg (by omega) (fun _ _ z => z) (fun h' t tk k => ⟨.str _, H, I.kept k, ⟨_, rfl⟩, q⟩) (hz.resolve_left fun ⟨_, z⟩ => by cases z)
  | tup hq ha =>
    cases (show u = Value.ref _ from ru)
    exact repr_of_reads' rd hs (PyData.noDict_hsm (PyData.hasDict_of_canLay _ hc)) hg (by omega) (fun _ _ z => z) (fun h' t tk k => ⟨.str _, H, I.kept k, ⟨_, rfl⟩, q⟩) (hz.resolve_left fun ⟨_, z⟩ => by cases z)
end
end Fr

namespace Fr
open PySem PySem.Spec PyProof.Rows L2
section
variable {P : Program} {w : World} {K : PySem.W.Frag} {mg mb : Str → Option Value} {a : Addr} {cs : List (Addr × Addr)} {s : Shared} {vs : List Value} {ns : List Int}
/-- what is tracked when the law is called: the tables, and the script unless it is written down -/
structure Begin (K : PySem.W.Frag) (cs : List (Addr × Addr)) (a : Addr) (so : Obj) (ns : List Int) (H : Hp) : Prop where
  tab : ∀ p ∈ cs, H p.2 = some (.tbl #[])
  scr : SqL K H a (ns.map V.int)
  only : ∀ b u, H b = some u → (u = .tbl #[] ∧ ∃ p ∈ cs, p.2 = b) ∨ (b = a ∧ u = .frz so (.lst (ns.map V.int)) ∧ K.lookup a = none)
theorem begin_ex (inK : K.In s.heap) (ha : s.heap.get? a = some { cls := .type "list", data := .seq vs.toArray }) (hi : IntsAre vs ns) (hl : ns.length ≤ sizeLine) (hT : ∀ p ∈ cs, s.heap.get? p.2 = some { cls := .none, data := .fields #[] }) :
    ∃ H, Begin K cs a { cls := .type "list", data := .seq vs.toArray } ns H := by
  have na : ¬ ∃ p ∈ cs, p.2 = a := by
    rintro ⟨p, hp, e⟩
    have z := hT p hp
    rw [e, ha] at z
    have z2 : Data.seq vs.toArray _ = Data.fields #[] := congrArg Obj.data (Option.some.inj z)
    cases z2
  haveI : DecidablePred fun b => ∃ p ∈ cs, p.2 = b := fun b => Classical.propDecidable _
  refine ⟨fun b => if ∃ p ∈ cs, p.2 = b then some (.tbl #[]) else if b = a then (match K.lookup a with | none => some (.frz { cls := .type "list", data := .seq vs.toArray } (.lst (ns.map V.int))) | some _ => none) else none, ⟨fun p hp => if_pos ⟨p, hp, rfl⟩, ?_, ?_⟩⟩
  · cases hk : K.lookup a with
    | none =>
      refine .inl (.inr ⟨{ cls := .type "list", data := .seq vs.toArray }, ?_⟩)
      exact (if_neg na).trans (if_pos rfl)
    | some o =>
      have e := inK a o hk
      rw [ha] at e
      cases e
      exact .inr ⟨_, vs.toArray, _, hk, rfl, rfl, rfl, by rw [List.size_toArray, hi.length]; exact hl, by simpa using vals_ints hi⟩
  · intro b u h
    by_cases h1 : ∃ p ∈ cs, p.2 = b
    · rw [if_pos h1] at h
      cases h
      exact .inl ⟨rfl, h1⟩
    · rw [if_neg h1] at h
      by_cases h2 : b = a
      · rw [if_pos h2] at h
        cases hk : K.lookup a with
        | none =>
          rw [hk] at h
          cases h
          exact .inr ⟨h2, rfl, rfl⟩
        | some o =>
          rw [hk] at h
          cases h
      · rw [if_neg h2] at h
        cases h
theorem law_callG {k : Nat} {fa : Addr} {fd : FuncData} {x : Str} {sp : Sp} (inK : K.In s.heap) (hns : s.heap.Ns mainGlobals mg) (hb : s.heap.Ns builtinsNs mb) (hbb : ∀ x : Str, x ≠ "__name__" → mb x = bootBuiltins x) (hlim : s.heap.NoLimit) (hg : s.gens = #[])
    (hT : ∀ p ∈ cs, s.heap.get? p.2 = some { cls := .none, data := .fields #[] }) (nT : ∀ p ∈ cs, K.lookup p.2 = none) (hC : ∀ p ∈ cs, PySem.W.CodeHd s.heap p.1 p.2)
    (hbm : ∃ (bm : Addr) (ob : Obj), mg "__builtins__" = some (.ref bm) ∧ bm ≠ builtinsNs ∧ s.heap.get? bm = some ob ∧ ob.cls = .type "module" ∧ ob.dict = some builtinsNs ∧ ob.data = .plain)
    (ha : s.heap.get? a = some { cls := .type "list", data := .seq vs.toArray }) (hi : IntsAre vs ns) (hl : ns.length ≤ sizeLine) (hr : Room k callerA)
    (F : ∀ base : Heap, K.In base → base.Ns mainGlobals mg → (∀ p ∈ cs, LamX.TabB base mg p.1 p.2) → FnG P w K mg base k fa fd [x] sp) (bind : ∀ (s : Shared) (u : Value), BindsTo s fd ⟨[u], []⟩ [(x, u)])
    (hsp : ∀ H : Hp, (∀ p ∈ cs, H p.2 = some (.tbl #[])) → SqL K H a (ns.map V.int) → sp [.ref a] H (fun v _ => v = .bl true) fun _ _ _ => False) :
    codeAny (model P w) callerA (.call (.ref fa) ⟨[.ref a], []⟩) (fun r s' => r = .ok (.ret (.bool true)) ∧ OldK s.heap s'.heap ∧ s'.os = s.os ∧ AllBare s'.gens) s := by
  obtain ⟨H, B⟩ := begin_ex inK ha hi hl hT
  have hok : HOk P w H s.heap := by
    intro b u h
    rcases B.only b u h with ⟨rfl, p, hp, rfl⟩ | ⟨rfl, rfl, _⟩
    · exact hT p hp
    · exact ⟨ha, by rw [List.length_map]; exact hl, vs, _, vals_ints hi, ha⟩
  -- what is no list and no empty table is not tracked
  have out : ∀ {b : Addr} {o : Obj}, s.heap.get? b = some o → (∀ ys n, o.data ≠ .seq ys n) → o.data ≠ .fields #[] → H b = none := by
    intro b o h1 h2 h3
    cases hb : H b with
    | none => rfl
    | some u =>
      rcases B.only b u hb with ⟨_, p, hp, rfl⟩ | ⟨rfl, _, _⟩
      · rw [hT p hp] at h1
        cases h1
        exact (h3 rfl).elim
      · rw [ha] at h1
        cases h1
        exact (h2 _ _ rfl).elim
  have low : ∀ {b : Addr} {o : Obj}, s.heap.get? b = some o → (∀ ys n, o.data ≠ .seq ys n) → o.data ≠ .fields #[] → (hidT s.heap H).get? b = some o := fun h1 h2 h3 => hidT_get h1 (out h1 h2 h3)
  have nsB : ∀ {b : Addr} {m : Str → Option Value}, s.heap.Ns b m → (hidT s.heap H).Ns b m := by
    rintro b m ⟨o, es, ep, h1, h2, h3⟩
    exact ⟨o, es, ep, low h1 (fun ys n z => by rw [h2] at z; cases z) (fun z => by rw [h2] at z; cases z), h2, h3⟩
  have inB : K.In (hidT s.heap H) := by
    intro b o h
    refine hidT_get (inK b o h) ?_
    cases hb : H b with
    | none => rfl
    | some u =>
      rcases B.only b u hb with ⟨_, p, hp, rfl⟩ | ⟨rfl, _, z⟩
      · rw [nT p hp] at h
        cases h
      · rw [z] at h
        cases h
  have md : L2.Mod K mg (hidT s.heap H) := by
    obtain ⟨mc, l1, l2⟩ := hlim
    exact ⟨inB, nsB hns, ⟨mb, nsB hb, hbb⟩, ⟨mc, nsB l1, l2⟩⟩
  have tb : ∀ p ∈ cs, LamX.TabB (hidT s.heap H) mg p.1 p.2 := by
    intro p hp
    have hp0 := hT p hp
    constructor
    · obtain ⟨o, us, f1, f2, f3, f4, f5, f6, f7, g, r1, r2, r3, r4, r5, r6, r7, r8, ne⟩ := hC p hp
      refine ⟨o, us, f1, f2, f3, f4, f5, f6, f7, low g (fun ys n z => by rw [r2] at z; cases z) (fun z => ?_), r1, r2, r3, r4, r5, r6, r7, r8, ne⟩
      rw [r2] at z
      cases z
      simp at r3
    · obtain ⟨bm, ob, b1, b2, b3, b4, b5, b6⟩ := hbm
      refine ⟨bm, ob, b1, b2, fun z => ?_, fun z => ?_, low b3 (fun ys n z => by rw [b6] at z; cases z) (fun z => by rw [b6] at z; cases z), b4, b5, b6⟩
      · obtain ⟨o, es, ep, e1, e2, _⟩ := hns
        rw [z, e1] at b3
        cases b3
        rw [e2] at b6
        cases b6
      · rw [z, hp0] at b3
        cases b3
        cases b6
    · intro z
      obtain ⟨o, es, ep, e1, e2, _⟩ := hns
      rw [z, hp0] at e1
      cases e1
      cases e2
  have env : Env0 P w K mg (hidT s.heap H) callerA [] s H :=
    { frames := rfl, mod := md, bs := fun _ _ z => of_hidT z, bsz := Nat.le_of_eq (hidT_size _ _), funs := trivial, frf := fun b z => absurd (show b ∈ ([] : List Addr) from z) (List.not_mem_nil), hok := hok, bare := .of_eq hg }
  refine codeAny_mono ((F _ inB (nsB hns) tb).go callerA [] s H ⟨[.ref a], []⟩ [.ref a] [.ref a] _ _ ⟨hr, rfl⟩ env (bind s (.ref a)) (.cons rfl .nil) (hsp H B.tab B.scr)) ?_
  intro rs s2 z
  match rs, z with
  | .error e, z => exact (show False from z).elim
  | .ok .next, z => exact z.elim
  | .ok .brk, z => exact z.elim
  | .ok .cont, z => exact z.elim
  | .ok (.ret u), z =>
    obtain ⟨v, H2, os, bare, un, hok2, ru, rfl⟩ := z
    obtain rfl : u = Value.bool true := ru
    have grow : ∀ p ∈ cs, ∃ more : Array Value, s2.heap.get? p.2 = some { cls := .none, data := .fields more } := fun p hp => by
      obtain ⟨more, e⟩ := un.tbls p.2 #[] (B.tab p hp)
      exact ⟨_, hok2 _ _ e⟩
    have keep : ∀ b o, (¬ ∃ p ∈ cs, p.2 = b) → s.heap.get? b = some o → s2.heap.get? b = some o := by
      intro b o nb h
      cases hb : H b with
      | none => exact un.keep b o h hb (fun z => absurd (show b ∈ ([] : List Addr) from z) List.not_mem_nil) List.not_mem_nil
      | some u =>
        rcases B.only b u hb with ⟨_, z⟩ | ⟨rfl, rfl, _⟩
        · exact (nb z).elim
        · have h1 := (hok _ _ hb).1
          rw [h] at h1
          cases h1
          exact (hok2 _ _ (un.frzs _ _ _ hb)).1
    refine ⟨rfl, ⟨fun b o h => ?_, fun b o h => ?_⟩, os, bare⟩
    · by_cases hb : ∃ p ∈ cs, p.2 = b
      · obtain ⟨p, hp, rfl⟩ := hb
        obtain ⟨more, e⟩ := grow p hp
        have h0 := hT p hp
        rw [h] at h0
        cases h0
        refine .inr (.inl ⟨((hC p hp).tab (hT p hp)).isCodeTable, rfl, #[], more, rfl, ?_⟩)
        rw [Array.empty_append]
        exact e
      · exact .inl (keep b o hb h)
    · by_cases hb : ∃ p ∈ cs, p.2 = b
      · obtain ⟨p, hp, rfl⟩ := hb
        obtain ⟨more, e⟩ := grow p hp
        exact ⟨_, e⟩
      · exact ⟨o, keep b o hb h⟩
/-- what is to be known of a law's def, at the heap behind its program's top -/
def LawAtG (l : PySem.W.OpenLaw) (w : World) (K : PySem.W.Frag) (k n : Nat) (x : Str) (mg : Str → Option Value) (fa : Addr) (h : Heap) : Prop :=
  ∃ (fd : FuncData) (cs : List (Addr × Addr)) (sp : Sp), ((∀ p ∈ cs, h.get? p.2 = some { cls := .none, data := .fields #[] }) ∧ (∀ p ∈ cs, K.lookup p.2 = none) ∧ ∀ p ∈ cs, PySem.W.CodeHd h p.1 p.2) ∧ (∀ (s : Shared) (u : Value), BindsTo s fd ⟨[u], []⟩ [(x, u)]) ∧
    (∀ (H : Hp) (a : Addr) (ns : List Int), ns.length ≤ n → (∀ p ∈ cs, H p.2 = some (.tbl #[])) → SqL K H a (ns.map V.int) → sp [.ref a] H (fun v _ => v = .bl true) fun _ _ _ => False) ∧
    ∀ base : Heap, K.In base → base.Ns mainGlobals mg → (∀ p ∈ cs, LamX.TabB base mg p.1 p.2) → FnG l.prog w K mg base k fa fd [x] sp
theorem walk_ofG {l : PySem.W.OpenLaw} {n k : Nat} {q : Program} {loose : List Str} {XP : (Str → Option Value) → Heap → Prop} {YP : World → Heap → Prop} {d : DefRec} {K : Params → PySem.W.Frag} {x : Str}
    (hn : l.most = some n) (hz : n ≤ sizeLine) (hdf : d.params.defaults = []) (hr : Room k callerA) (hY : ∀ (w : World) (h : Heap), YP w h → (K w.params).In h)
    (F : ∀ (w : World) (mg : Str → Option Value) (fa : Addr) (h : Heap), YP w h → (K w.params).In h → h.Ns mainGlobals mg → mg d.name = some (.ref fa) → LawAtG l w (K w.params) k n x mg fa h) : PySem.W.WalkO q loose XP YP l.row.toRowW d [] (fun f vs => PySem.call f vs) := by
  refine Att.attach_callB hn hdf ?_
  intro w _ s mg mb fa _ _ _ _ a vs ns G Y _ _ _ hmg hobj hints hlen _ hg
  have inK := hY w _ Y
  obtain ⟨fd, cs, sp, ⟨h1, h2, h3⟩, hb, hsp, hF⟩ := F w mg fa _ Y inK G.T.g hmg
  exact law_callG inK G.T.g G.T.b G.T.builtins G.T.nolimit hg h1 h2 h3 G.T.bmain hobj hints (Nat.le_trans hlen hz) hr hF hb fun H t => hsp H a ns hlen t
end
end Fr

namespace Fr
open PySem PySem.Spec PyProof.Rows L2
abbrev s_is_cell : Stmt := topS 16
theorem sc_is_cell : FnScope ["system", "cell", "name", "point"] ["system", "cell"] (defScope s_is_cell) := ⟨rfl, rfl, rfl, by decide +kernel, rfl, by decide +kernel, by decide +kernel⟩
-- slots: 0 system, 1 cell, 2 name, 3 point
abbrev s_is_way : Stmt := topS 29
theorem sc_is_way : FnScope ["system", "cells", "cell", "earlier", "later"] ["system", "cells"] (defScope s_is_way) := ⟨rfl, rfl, rfl, by decide +kernel, rfl, by decide +kernel, by decide +kernel⟩
-- slots: 0 system, 1 cells, 2 cell, 3 earlier, 4 later
abbrev Cell := Str × List Int
def okCell (d : Int) (ts : List Tb) (c : Cell) : Bool := decide (c.1 ∈ ts.map (·.n)) && okPoint d c.2
/-- what a cell reads -/
def readsOf (ts : List Tb) (c : Cell) : List Cell := match ts.find? (fun t => decide (t.n = c.1)) with
  | some tb => inner tb.rs c.2
  | none => []
def memC (c : Cell) (cs : List Cell) : Bool := (cs.map cellD).any fun z => PyData.eqv z (cellD c)
def nthC (cs : List Cell) (i : Nat) : Cell := cs.getD i (Str.empty, [])
theorem nthC_of {cs : List Cell} {i : Nat} {c : Cell} (h : cs[i]? = some c) : nthC cs i = c := by
  unfold nthC
  rw [List.getD_eq_getElem?_getD, h]
  rfl
theorem cut_from (xs : List V) : cutV xs (some 1) none = xs.drop 1 := by
  unfold cutV
  rw [show HT.sIx xs.length 0 (some (1 : Int)) = min 1 xs.length from HT.sIx_nat xs.length 0 1, HT.sIx_none]
  cases xs with
  | nil => rfl
  | cons x xs =>
    rw [List.length_cons, Nat.min_eq_left (by omega)]
    refine List.take_of_length_le ?_
    rw [List.length_drop, List.length_cons]
    exact Nat.le_refl _
/-- each cell of the list reads the next one -/
def steps (ts : List Tb) (cs : List Cell) : List Bool := (List.range (cs.length - 1)).map fun i => memC (nthC cs (i + 1)) (readsOf ts (nthC cs i))
def isWay (d : Int) (ts : List Tb) (cs : List Cell) : Bool := !cs.isEmpty && cs.all (okCell d ts) && (steps ts cs).all id
theorem inV_dec {x : Str} {l : List Str} : inV (.str x) (l.map V.str) = decide (x ∈ l) := by
  by_cases h : x ∈ l
  · rw [inV_str h, decide_eq_true h]
  · rw [inV_no h, decide_eq_false h]
section
variable {P : Program} {w : World} {K : PySem.W.Frag} {mg : Str → Option Value} {base : Heap}
def spIsCell (K : PySem.W.Frag) (C : Addr) : Sp := fun vs H Q _ => ∃ (s : Addr) (d m : Int) (ts : List Tb) (v : V) (c : Cell), vs = [.ref s, v] ∧ SysAt K C H s d m ts ∧ Dp K H v (cellD c) ∧ c.2.length ≤ 100000 ∧ ∀ H', Same H H' → Q (.bl (okCell d ts c)) H'
theorem ok_is_cell {f C : Addr} {fd : FuncData} (F : Fun K "is_cell" "is_cell" s_is_cell f fd) (T : Txt mg) (p_names : Prp P w K mg base 1 C "names" (spNames K C)) (c_is_point : C8.Cal P w K mg base 3 "is_point" (spIsPoint K C) []) : FnOk P w K mg base CX0 4 f fd ["system", "cell"] (spIsCell K C) := by
  refine F.ok sc_is_cell (fun vs H Q E h => ?_) (fun cdv A outer sh H vs Q E hr h => ?_)
  · obtain ⟨s, d, m, ts, v, c, rfl, _⟩ := h
    rfl
  · obtain ⟨s, d, m, ts, v, c, rfl, S, hv, hz, q⟩ := h
    refine ⟨_, (pss_cons (ps_asg (pv 1) (pg_tup rfl (pgs_cons (pg_name (i := 2) sc_is_cell.nd rfl (by first | exact Or.inl rfl | exact Or.inr rfl)) (pgs_cons (pg_name (i := 3) sc_is_cell.nd rfl (by first | exact Or.inl rfl | exact Or.inr rfl)) pgs_nil))))
  (pss_one (ps_ret (pe_and (pe_cmpR op_in_seq (pv 2) (pe_pr (pv 0) p_names hr (by decide) rfl) (by rfl)) (pe_one (C8.pe_c c_is_point hr (by decide) (by rfl) (pa_cons (pv 0) (pa_cons (pv 3) pa_nil)))))))), ?_⟩
    obtain ⟨a, xs, rfl, ht, hd⟩ := dtup hv
    obtain ⟨x1, x2, rfl, h1, h2⟩ := dps2 hd
    obtain rfl := dstr h1
    obtain ⟨dx, t, kvs, o1, o2, o3⟩ := id S.ob
    refine ⟨_, rfl, a, _, rfl, ht, rfl, _, _, rfl, _, _, rfl, rfl, ?_⟩
    refine ⟨_, rfl, _, rfl, s, dx, _, rfl, o1, s, d, m, ts, rfl, S, fun p H1 hp sm hl => ?_⟩
    have e : (ts.map fun t => V.str t.n) = (ts.map (·.n)).map V.str := by
      rw [List.map_map]
      rfl
    rw [e] at hl
    refine ⟨p, _, rfl, Or.inl (Or.inl (Or.inl hl)), rfl, flat_strs _, _, rfl, ?_⟩
    rw [if_neg Bool.false_ne_true, inV_dec]
    have ec : okCell d ts c = (decide (c.1 ∈ ts.map (·.n)) && okPoint d c.2) := rfl
    refine ite2 (fun hb => ?_) (fun hb => ?_)
    · refine ⟨_, rfl, _, rfl, s, d, m, ts, x2, c.2, rfl, S.mono sm, dpm sm _ _ h2, hz, fun H2 s2 => ?_⟩
      have z := q H2 (same_tr sm s2)
      rw [ec, hb, Bool.true_and] at z
      exact z
    · have z := q H1 sm
      have hb' : decide (c.1 ∈ ts.map (·.n)) = false := by simpa using hb
      rw [ec, hb', Bool.false_and] at z
      exact z
/-- what a way is asked of -/
structure WaysOk (d : Int) (ts : List Tb) : Prop where
  d1 : 1 ≤ d
  d3 : d ≤ 3
  nd : (ts.map (·.n)).Nodup
  lv : ∀ t ∈ ts, ∀ r ∈ t.rs, (r.v.length : Int) = d
  few : ∀ t ∈ ts, t.rs.length ≤ 1000
  oks : ∀ t ∈ ts, ∀ r ∈ t.rs, PyData.strOk r.t = true
theorem find_mem {x : Str} {ts : List Tb} (h : x ∈ ts.map (·.n)) : ∃ tb, ts.find? (fun t => decide (t.n = x)) = some tb ∧ tb ∈ ts := by
  obtain ⟨t, ht, e⟩ := List.mem_map.mp h
  cases hf : ts.find? (fun t => decide (t.n = x)) with
  | none => exact absurd (decide_eq_true e) (List.find?_eq_none.mp hf t ht)
  | some tb => exact ⟨tb, rfl, List.mem_of_find?_eq_some hf⟩
theorem shaped_cell {c : Cell} (h : PyData.strOk c.1 = true) : SeqAt.shaped (cellD c) = true := by
  obtain ⟨h1, h2⟩ := good_cell h
  unfold SeqAt.shaped
  rw [Bool.and_eq_true]
  exact ⟨h1, decide_eq_true (by omega)⟩
theorem shaped_cells {cs : List Cell} (h : ∀ c ∈ cs, PyData.strOk c.1 = true) : SeqAt.shaped (.list (cs.map cellD)) = true := (eqv_cells cs h).1
def spIsWay (K : PySem.W.Frag) (C : Addr) : Sp := fun vs H Q _ => ∃ (s l : Addr) (d m : Int) (ts : List Tb) (xs : List V) (cs : List Cell), vs = [.ref s, .ref l] ∧ SysAt K C H s d m ts ∧ WaysOk d ts ∧ SqL K H l xs ∧ DpAll K H xs (cs.map cellD) ∧ cs.length ≤ 1000 ∧ (∀ c ∈ cs, c.2.length ≤ 100000 ∧ PyData.strOk c.1 = true) ∧ ∀ H', Same H H' → Q (.bl (isWay d ts cs)) H'
theorem ok_is_way {f C : Addr} {fd : FuncData} (F : Fun K "is_way" "is_way" s_is_way f fd) (T : Txt mg) (c_is_cell : C8.Cal P w K mg base 4 "is_cell" (spIsCell K C) []) (c_reads_from : C8.Cal P w K mg base 5 "reads_from" (spFrom K C) []) : FnOk P w K mg base CX0 6 f fd ["system", "cells"] (spIsWay K C) := by
  refine F.ok sc_is_way (fun vs H Q E h => ?_) (fun cdv A outer sh H vs Q E hr h => ?_)
  · obtain ⟨s, l, d, m, ts, xs, cs, rfl, _⟩ := h
    rfl
  · obtain ⟨s, l, d, m, ts, xs, cs, rfl, S, W, hl, hd, hn, hc, q⟩ := h
    refine ⟨_, (pss_cons (ps_if (PW.pt (pw_or (pt_not (pt_truth (pv 1) (by intro _; rfl))) (pw_or1 (pt_not (pt_val (pe_callB (cr_all rfl) (by rfl) T.b_all (by decide +kernel) (pa_cons (pe_lc (own := [("cell", 2)]) (g := gName 2) (tt := tYes) (by rfl) sc_is_way.nd (pi_list (pv 1)) (blkOk_by (N := ["system", "cells", "cell", "earlier", "later"]) (sc := defScope s_is_way) (by decide +kernel)) (fun _ _ _ _ _ => (pg_name (i := 2) sc_is_way.nd rfl (by first | exact Or.inl rfl | exact Or.inr rfl))) (fun _ _ _ _ _ => pts_nil) (fun _ _ _ _ _ => (C8.pe_c c_is_cell hr (by decide) (by rfl) (pa_cons (pv 0) (pa_cons (pv 2) pa_nil))))) pa_nil)))))))
    (pss_one (ps_ret pe_bl))
    pss_nil)
  (pss_one (ps_ret (pe_callB (cr_all rfl) (by rfl) T.b_all (by decide +kernel) (pa_cons (pe_lc (own := [("earlier", 3), ("later", 4)]) (g := gTup K 2 (gCons (gName 3) (gCons (gName 4) gNil))) (tt := tYes) (by rfl) sc_is_way.nd (pi_zip (by rfl) T.b_zip (pa_cons (pv 1) (pa_cons (pe_slice sl_list (pv 1) (po_some pe_int) po_none) pa_nil))) (blkOk_by (N := ["system", "cells", "cell", "earlier", "later"]) (sc := defScope s_is_way) (by decide +kernel)) (fun _ _ _ _ _ => (pg_tup rfl (pgs_cons (pg_name (i := 3) sc_is_way.nd rfl (by first | exact Or.inl rfl | exact Or.inr rfl)) (pgs_cons (pg_name (i := 4) sc_is_way.nd rfl (by first | exact Or.inl rfl | exact Or.inr rfl)) pgs_nil)))) (fun _ _ _ _ _ => pts_nil) (fun _ _ _ _ _ => (pe_cmpR (r := rInD K) (op_inD hr.units1) (pv 4) (C8.pe_c c_reads_from hr (by decide) (by rfl) (pa_cons (pv 0) (pa_cons (pv 3) pa_nil))) (by rfl)))) pa_nil))))), ?_⟩
    have hxl : xs.length = cs.length := by rw [dps_len hd, List.length_map]
    have cell_at : ∀ {H' : Hp} {i : Nat} {x : V}, Same H H' → xs[i]? = some x → ∃ c, cs[i]? = some c ∧ nthC cs i = c ∧ Dp K H' x (cellD c) := fun {H' i x} sm hx => by
      obtain ⟨dd, e1, e2⟩ := dps_get (dpsm sm _ _ hd) hx
      rw [List.getElem?_map] at e1
      obtain ⟨c, e3, rfl⟩ := Option.map_eq_some_iff.mp e1
      exact ⟨c, e3, nthC_of e3, e2⟩
    have he : xs.isEmpty = cs.isEmpty := by
      cases xs <;> cases cs <;> first | rfl | (simp at hxl)
    refine ⟨_, rfl, !xs.isEmpty, Or.inl ⟨xs, hl, rfl⟩, ?_⟩
    rw [he]
    cases hce : cs.isEmpty with
    | true =>
      refine iteT ?_
      refine iteT ?_
      have z := q H same_refl
      unfold isWay at z
      rw [hce] at z
      exact z
    | false =>
      refine iteF ?_
      refine ⟨_, rfl, l, rfl, ⟨xs, hl⟩, fun D hD => lc_flat (walk_list (K := K) (a := l) (xs := xs)) (fun i => .bl (okCell d ts (nthC cs i))) (by omega) hD (fun H' sm => sql sm hl) (fun i H x H' y => yat_same y) ?_ ?_⟩
      · rintro i x Ha Hb hi sm ⟨rfl, hx⟩ R hR
        obtain ⟨c, e1, e2, e3⟩ := cell_at sm hx
        refine ⟨rfl, _, rfl, _, rfl, s, d, m, ts, x, c, rfl, S.mono sm, e3, (hc c (List.mem_of_getElem? e1)).1, fun H' s' => ?_⟩
        have r := hR H' s'
        rw [e2] at r
        exact r
      · intro H1 s1 hD1
        refine ⟨D, (List.range xs.length).map fun i => okCell d ts (nthC cs i), rfl, Or.inl (Or.inl ?_), _, rfl, ?_⟩
        · rw [hD1, List.map_map]
          rfl
        · have e : ((List.range xs.length).map fun i => okCell d ts (nthC cs i)).all id = cs.all (okCell d ts) := by
            have := range_map_get (cs.map (okCell d ts)) (fun i => okCell d ts (nthC cs i)) (fun i b hb => by
              rw [List.getElem?_map] at hb
              obtain ⟨c, h1, h2⟩ := Option.map_eq_some_iff.mp hb
              rw [nthC_of h1]
              exact h2)
            rw [List.length_map, ← hxl] at this
            rw [this, List.all_map]
            rfl
          rw [e]
          cases ha : cs.all (okCell d ts) with
          | false =>
            refine iteT ?_
            have z := q H1 s1
            unfold isWay at z
            rw [ha, Bool.and_false, Bool.false_and] at z
            exact z
          | true =>
            refine iteF ?_
            have allc : ∀ c ∈ cs, okCell d ts c = true := List.all_eq_true.mp ha
            refine ⟨_, rfl, _, rfl, 1, rfl, l, xs, rfl, sql s1 hl, fun p hp => ?_⟩
            rw [cut_from]
            have sp : Same H (upd H1 p (.lst (xs.drop 1))) := same_tr s1 (snew hp)
            have hp2 : (upd H1 p (.lst (xs.drop 1))) p = some (.lst (xs.drop 1)) := upd_same
            generalize upd H1 p (.lst (xs.drop 1)) = H2 at sp hp2 ⊢
            refine ⟨l, p, xs, xs.drop 1, rfl, sql sp hl, Or.inl (Or.inl hp2), fun D2 hD2 => lc_flat (walk_zip (K := K) (a := l) (b := p) (xs := xs) (ys := xs.drop 1) (n := cs.length - 1) (by rw [List.length_drop, hxl]; omega)) (fun i => .bl (memC (nthC cs (i + 1)) (readsOf ts (nthC cs i)))) (by omega) hD2 (fun H' sm => ⟨sql (same_tr sp sm) hl, Or.inl (Or.inl (sm _ _ hp2))⟩) (fun i H x H' y => ypair_same y) ?_ ?_⟩
            · rintro i z Ha Hb hi sm ⟨Tp, z1, z2, rfl, hT, rfl, f1, f2⟩ R hR
              have f1' : xs[i]? = some z1 := f1
              have f2' : xs[i + 1]? = some z2 := by
                have : (xs.drop 1)[i]? = some z2 := f2
                rw [List.getElem?_drop] at this
                rw [show i + 1 = 1 + i by omega]
                exact this
              have sb := same_tr (same_tr sp sm) (snew (o := .tup [z1, z2]) hT)
              obtain ⟨c1, g1, g2, g3⟩ := cell_at sb f1'
              obtain ⟨c2, k1, k2, k3⟩ := cell_at sb f2'
              have hc1 := allc c1 (List.mem_of_getElem? g1)
              unfold okCell at hc1
              rw [Bool.and_eq_true] at hc1
              have hm := of_decide_eq_true hc1.1
              obtain ⟨tb, t1, t2⟩ := find_mem hm
              have er : readsOf ts c1 = inner tb.rs c1.2 := by
                unfold readsOf
                rw [t1]
              refine ⟨Tp, _, rfl, Or.inl (Or.inl upd_same), rfl, _, _, rfl, _, _, rfl, rfl, rfl, _, rfl, _, rfl, _, rfl, s, d, m, ts, z1, c1.1, c1.2, tb, rfl, S.mono sb, g3, hm, t1, hc1.2, W.d1, W.d3, W.lv tb t2, W.few tb t2, fun q1 Hc xc hq1 sc qc dc => ?_⟩
              refine ⟨cellD c2, _, dpm sc _ _ k3, .lst (Or.inl (Or.inl qc)) dc, shaped_cell (hc c2 (List.mem_of_getElem? k1)).2, shaped_cells (inner_ok (W.oks tb t2)), ?_⟩
              have r := hR Hc sc
              rw [g2, k2, er] at r
              exact r
            · intro H3 s3 hD3
              refine ⟨D2, steps ts cs, rfl, Or.inl (Or.inl ?_), ?_⟩
              · rw [hD3]
                unfold steps
                rw [List.map_map]
                rfl
              · have z := q H3 (same_tr sp s3)
                unfold isWay at z
                rw [hce, ha] at z
                exact z
end
end Fr

namespace Fr
open PySem PySem.Spec PyProof.Rows L2
abbrev s_Lis_way : Stmt := topS 39
theorem sc_Lis_way : FnScope ["_law_dims", "_law_rows", "_law_way", "_law_words", "_law_word", "_law_number", "_law_some", "_law_point", "_law_one", "_law_odd", "_law_two"] ["_law_dims", "_law_rows", "_law_way"] (defScope s_Lis_way) := ⟨rfl, rfl, rfl, by decide +kernel, rfl, by decide +kernel, by decide +kernel⟩
-- slots: 0 _law_dims, 1 _law_rows, 2 _law_way, 3 _law_words, 4 _law_word, 5 _law_number, 6 _law_some, 7 _law_point, 8 _law_one, 9 _law_odd, 10 _law_two
theorem filter_take {α : Type} {xs : List α} {p : α → Bool} {i : Nat} {x : α} (h : xs[i]? = some x) : (xs.take (i + 1)).filter p = (xs.take i).filter p ++ (if p x = true then [x] else []) := by
  rw [List.take_add_one, h, List.filter_append]
  congr 1
  show List.filter p [x] = _
  rw [List.filter_cons]
  rfl
theorem negs_empty (p : List Int) : (p.filter fun z => decide (z < 0)).isEmpty = p.all fun i => decide (0 ≤ i) := by
  induction p with
  | nil => rfl
  | cons z p ih =>
    rw [List.filter_cons, List.all_cons, ← ih]
    by_cases h : z < 0
    · rw [if_pos (decide_eq_true h), decide_eq_false (show ¬ 0 ≤ z by omega)]
      rfl
    · rw [if_neg (by simpa using h), decide_eq_true (show 0 ≤ z by omega), Bool.true_and]
theorem nots_empty (bs : List Bool) : (bs.filter fun b => !b).isEmpty = bs.all id := by
  induction bs with
  | nil => rfl
  | cons b bs ih =>
    rw [List.filter_cons, List.all_cons, ← ih]
    cases b <;> rfl
theorem eqv_map_nil {α : Type} (g : α → PyData) (xs : List α) : PyData.eqv (.list (xs.map g)) (.list []) = xs.isEmpty := by
  rw [eqv_nil]
  cases xs <;> rfl
theorem good_int (n : Int) : Good (.int n) := ⟨by simp [PyData.canLay0], by simp [PyData.depth]⟩
section
variable {P : Program} {w : World} {K : PySem.W.Frag} {mg : Str → Option Value} {base : Heap}
def spLway (K : PySem.W.Frag) : Sp := fun vs H Q _ => ∃ (d : Int) (v : V) (l : Addr) (ts : List Tb) (xs : List V) (cs : List Cell), vs = [.int d, v, .ref l] ∧ Dp K H v (.list (ts.map Tb.d)) ∧ OkT d ts ∧ ts.length ≤ 6 ∧ WaysOk d ts ∧ SqL K H l xs ∧ DpAll K H xs (cs.map cellD) ∧ cs.length ≤ 1000 ∧ (∀ c ∈ cs, c.2.length ≤ 100000 ∧ PyData.strOk c.1 = true) ∧ ∀ H', Same H H' → Q (.bl (isWay d ts cs)) H'
theorem ok_lway {f : Addr} {fd : FuncData} (F : Fun K "_law_is_way" "_law_is_way" s_Lis_way f fd) (T : Txt mg) (c_Lfrom : C8.Cal P w K mg base 1 "_law_from" (spLfrom K) []) : FnOk P w K mg base CX0 2 f fd ["_law_dims", "_law_rows", "_law_way"] (spLway K) := by
  refine F.ok sc_Lis_way (fun vs H Q E h => ?_) (fun cdv A outer sh H vs Q E hr h => ?_)
  · obtain ⟨d, v, l, ts, xs, cs, rfl, _⟩ := h
    rfl
  · obtain ⟨d, v, l, ts, xs, cs, rfl, hv, O, hl6, W, hl, hd, hn, hc, q⟩ := h
    refine ⟨_, (pss_cons (ps_setLc (i := 3) (own := [("_law_word", 4), ("_law_number", 5), ("_law_some", 6)]) (g := gTup K 3 (gCons (gName 4) (gCons (gName 5) (gCons (gName 6) gNil)))) (tt := tYes) (by rfl) sc_Lis_way.nd rfl rfl (sw_true rfl rfl rfl (by decide +kernel)) (pi_list (pv 1)) (blkOk_by (N := ["_law_dims", "_law_rows", "_law_way", "_law_words", "_law_word", "_law_number", "_law_some", "_law_point", "_law_one", "_law_odd", "_law_two"]) (sc := defScope s_Lis_way) (by decide +kernel)) (fun _ _ _ _ _ => (pg_tup rfl (pgs_cons (pg_name (i := 4) sc_Lis_way.nd rfl (by first | exact Or.inl rfl | exact Or.inr rfl)) (pgs_cons (pg_name (i := 5) sc_Lis_way.nd rfl (by first | exact Or.inl rfl | exact Or.inr rfl)) (pgs_cons (pg_name (i := 6) sc_Lis_way.nd rfl (by first | exact Or.inl rfl | exact Or.inr rfl)) pgs_nil))))) (fun _ _ _ _ _ => pts_nil) (fun _ _ _ _ _ => (pv 4)))
  (pss_cons (ps_for PassesOwn.never rfl (pi_list (pv 2)) (pg_tup rfl (pgs_cons (pg_name (i := 4) sc_Lis_way.nd rfl (by first | exact Or.inl rfl | exact Or.inr rfl)) (pgs_cons (pg_name (i := 7) sc_Lis_way.nd rfl (by first | exact Or.inl rfl | exact Or.inr rfl)) pgs_nil)))
    (pss_one (ps_if (PW.pt (pw_or (pt_cmpR op_notIn_seq (pv 4) (pv 3) (by rfl)) (pw_or (pt_cmpR op_ne (pe_callB call_len_seq (by rfl) T.b_len PySem.boot_len (pa_cons (pv 7) pa_nil)) (pv 0) (nomark _)) (pw_or1 (pt_cmpR (op_neD hr.units) (pe_lc (own := [("_law_one", 8)]) (g := gName 8) (by rfl) sc_Lis_way.nd (pi_tup (pv 7)) (blkOk_by (N := ["_law_dims", "_law_rows", "_law_way", "_law_words", "_law_word", "_law_number", "_law_some", "_law_point", "_law_one", "_law_odd", "_law_two"]) (sc := defScope s_Lis_way) (by decide +kernel)) (fun _ _ _ _ _ => (pg_name (i := 8) sc_Lis_way.nd rfl (by first | exact Or.inl rfl | exact Or.inr rfl))) (fun _ _ _ _ _ => (pts_one (pt_cmpR op_lt (pv 8) pe_int (nomark _)))) (fun _ _ _ _ _ => (pv 8))) (pe_lst pa_nil) (nomark _))))))
      (pss_one (ps_ret pe_bl))
      pss_nil)))
  (pss_cons (ps_setLc (i := 9) (own := [("_law_one", 8), ("_law_two", 10)]) (g := gTup K 2 (gCons (gName 8) (gCons (gName 10) gNil))) (by rfl) sc_Lis_way.nd rfl rfl (sw_true rfl rfl rfl (by decide +kernel)) (pi_zip (by rfl) T.b_zip (pa_cons (pv 2) (pa_cons (pe_slice sl_list (pv 2) (po_some pe_int) po_none) pa_nil))) (blkOk_by (N := ["_law_dims", "_law_rows", "_law_way", "_law_words", "_law_word", "_law_number", "_law_some", "_law_point", "_law_one", "_law_odd", "_law_two"]) (sc := defScope s_Lis_way) (by decide +kernel)) (fun _ _ _ _ _ => (pg_tup rfl (pgs_cons (pg_name (i := 8) sc_Lis_way.nd rfl (by first | exact Or.inl rfl | exact Or.inr rfl)) (pgs_cons (pg_name (i := 10) sc_Lis_way.nd rfl (by first | exact Or.inl rfl | exact Or.inr rfl)) pgs_nil)))) (fun _ _ _ _ _ => (pts_one (pt_cmpR (r := rNotInD K) (op_notInD hr.units1) (pv 10) (C8.pe_c c_Lfrom hr (by decide) (by rfl) (pa_cons (pv 1) (pa_cons (pv 8) pa_nil))) (by rfl)))) (fun _ _ _ _ _ => pe_int))
  (pss_one (ps_ret (pe_and (pe_cmpR (op_neD hr.units) (pv 2) (pe_lst pa_nil) (nomark _)) (pe_one (pe_cmpR (op_eqD hr.units) (pv 9) (pe_lst pa_nil) (nomark _))))))))), ?_⟩
    have hxl : xs.length = cs.length := by rw [dps_len hd, List.length_map]
    have cell_at : ∀ {H' : Hp} {i : Nat} {x : V}, Same H H' → xs[i]? = some x → ∃ c, cs[i]? = some c ∧ nthC cs i = c ∧ Dp K H' x (cellD c) := fun {H' i x} sm hx => by
      obtain ⟨dd, e1, e2⟩ := dps_get (dpsm sm _ _ hd) hx
      rw [List.getElem?_map] at e1
      obtain ⟨c, e3, rfl⟩ := Option.map_eq_some_iff.mp e1
      exact ⟨c, e3, nthC_of e3, e2⟩
    obtain ⟨a, rs, rfl, ha, hrd⟩ := dlst hv
    have hrl : rs.length = ts.length := by rw [dps_len hrd, List.length_map]
    -- words
    refine ⟨_, rfl, a, rfl, ⟨rs, ha⟩, fun D hD => lc_flat (walk_list (K := K) (a := a) (xs := rs)) (fun i => .str (nth (ts.map (·.n)) i)) (by omega) hD (fun H' sm => sql sm ha) (fun i H x H' y => yat_same y) ?_ ?_⟩
    · rintro i x H1 H2 hi sm ⟨rfl, hx⟩ R hR
      obtain ⟨t, b, l', ys, e1, rfl, g1, _, _⟩ := tb_at (dpsm sm _ _ hrd) hx
      have en : nth (ts.map (·.n)) i = t.n := nth_of (by rw [List.getElem?_map, e1]; rfl)
      refine ⟨b, _, rfl, g1, rfl, _, _, rfl, _, _, rfl, _, _, rfl, rfl, rfl, _, rfl, ?_⟩
      have r := hR H2 same_refl
      rw [en] at r
      exact r
    · intro H1 s1 hD1
      have hD1 : H1 D = some (.lst ((ts.map (·.n)).map V.str)) := by
        rw [hD1, hrl, ← nths, List.length_map]
      -- cell by cell
      refine ⟨_, rfl, l, rfl, ⟨xs, sql s1 hl⟩, for_it (walk_list (K := K) (a := l) (xs := xs)) (fun i σ H' => ∃ y4 y5 y6 y7 y8 y9 y10, σ = [some (.int d), some (.ref a), some (.ref l), some (.ref D), y4, y5, y6, y7, y8, y9, y10] ∧ Same H1 H' ∧ ∀ j c, j < i → cs[j]? = some c → okCell d ts c = true)
        ⟨none, none, none, none, none, none, none, rfl, same_refl, fun j c h => absurd h (Nat.not_lt_zero _)⟩ (fun i σ H' _ ⟨_, _, _, _, _, _, _, _, s, _⟩ => sql (same_tr s1 s) hl) ?_ ?_⟩
      · rintro i x σ _ H2 hi ⟨y4, y5, y6, y7, y8, y9, y10, rfl, s2, old⟩ ⟨rfl, hx⟩
        have s12 := same_tr s1 s2
        obtain ⟨c, e1, e2, e3⟩ := cell_at s12 hx
        obtain ⟨b, zs, rfl, hbt, hbd⟩ := dtup e3
        obtain ⟨z1, z2, rfl, h1, h2⟩ := dps2 hbd
        obtain rfl := dstr h1
        obtain ⟨pa, ps, rfl, hpt, hpd⟩ := dtup h2
        obtain rfl := dps_ints hpd
        -- the cell is wrong: no way
        have bad : ∀ H', Same H H' → okCell d ts c = false → Q (.bl false) H' := fun H' s' h => by
          have z := q H' s'
          have e : cs.all (okCell d ts) = false := by
            rw [List.all_eq_false]
            exact ⟨c, List.mem_of_getElem? e1, by rw [h]; exact Bool.false_ne_true⟩
          unfold isWay at z
          rw [e, Bool.and_false, Bool.false_and] at z
          exact z
        refine ⟨b, _, rfl, hbt, rfl, _, _, rfl, _, _, rfl, rfl, ?_⟩
        refine ⟨_, rfl, _, rfl, D, _, rfl, Or.inl (Or.inl (Or.inl (s2 _ _ hD1))), rfl, flat_strs _, _, rfl, ?_⟩
        rw [if_pos rfl, inV_dec]
        have ec : okCell d ts c = (decide (c.1 ∈ ts.map (·.n)) && okPoint d c.2) := rfl
        cases hin : decide (c.1 ∈ ts.map (·.n)) with
        | false =>
          refine iteT ?_
          refine iteT ?_
          exact bad H2 s12 (by rw [ec, hin, Bool.false_and])
        | true =>
          refine iteF ?_
          refine ⟨_, rfl, pa, _, rfl, Or.inr hpt, _, rfl, rfl, _, rfl, ?_⟩
          have el : decide (V.int ((c.2.map V.int).length : Int) = V.int d) = decide ((c.2.length : Int) = d) := by
            rw [List.length_map]
            exact decide_eq_decide.mpr ⟨fun h => V.int.inj h, fun h => congrArg V.int h⟩
          rw [el]
          cases hle : decide ((c.2.length : Int) = d) with
          | false =>
            refine iteT ?_
            refine iteT ?_
            refine bad H2 s12 ?_
            rw [ec, hin, Bool.true_and]
            unfold okPoint
            rw [hle, Bool.false_and]
          | true =>
            refine iteF ?_
            refine ⟨_, rfl, pa, rfl, ⟨_, hpt⟩, fun D2 hD2 => ?_⟩
            refine lc_it (walk_tup (K := K) (a := pa) (xs := c.2.map V.int)) (fun n H' => Same H2 H' ∧ H' D2 = some (.lst (((c.2.take n).filter fun z => decide (z < 0)).map V.int)))
              ⟨snew hD2, upd_same⟩ (fun n H' _ h => sqt h.1 hpt) ?_ ?_
            · rintro n x Ha Hb hn' ⟨k1, k2⟩ ⟨rfl, hx2⟩
              rw [List.length_map] at hn'
              rw [List.getElem?_map] at hx2
              obtain ⟨z, hz, rfl⟩ := Option.map_eq_some_iff.mp hx2
              have ft := filter_take (p := fun z : Int => decide (z < 0)) hz
              refine ⟨rfl, _, rfl, z, 0, rfl, rfl, _, rfl, ?_⟩
              refine ite2 (fun hb => ?_) (fun hb => ?_)
              · rw [if_pos hb] at ft
                refine ⟨_, rfl, _, k2, ?_, smut k1 hD2, ?_⟩
                · rw [List.length_map]
                  have h1 := List.length_filter_le (fun z : Int => decide (z < 0)) (c.2.take n)
                  rw [List.length_take] at h1
                  have h2 := (hc c (List.mem_of_getElem? e1)).1
                  rw [sizeLine_eq]
                  omega
                · rw [upd_same, ft, List.map_append]
                  rfl
              · rw [if_neg hb, List.append_nil] at ft
                refine ⟨k1, ?_⟩
                rw [ft]
                exact k2
            · rintro H3 ⟨k1, k2⟩
              rw [List.length_map, List.take_length] at k2
              refine ⟨Nat.zero_le _, fun p hp => ⟨.list ((c.2.filter fun z => decide (z < 0)).map .int), .list [], .lst (Or.inl (Or.inl (snew hp _ _ k2))) (ints_dps _), .lst (Or.inl (Or.inl upd_same)) .nil, shaped_list (by
                intro y hy
                obtain ⟨z, _, rfl⟩ := List.mem_map.mp hy
                exact good_int z), shaped_list (by intro y hy; cases hy), _, rfl, ?_⟩⟩
              rw [eqv_map_nil, negs_empty]
              have s14 := same_tr s12 (same_tr k1 (snew (o := .lst []) hp))
              cases hal : c.2.all fun i => decide (0 ≤ i) with
              | false =>
                refine iteT ?_
                refine bad _ s14 ?_
                rw [ec, hin, Bool.true_and]
                unfold okPoint
                rw [hal, Bool.and_false]
              | true =>
                refine iteF ?_
                refine ⟨_, _, _, _, _, _, _, rfl, same_tr s2 (same_tr k1 (snew hp)), fun j c' hj hc' => ?_⟩
                by_cases hji : j = i
                · subst hji
                  rw [e1] at hc'
                  cases hc'
                  rw [ec, hin, Bool.true_and]
                  unfold okPoint
                  rw [hle, hal]
                  rfl
                · exact old j c' (by omega) hc'
      · rintro σ H2 ⟨y4, y5, y6, y7, y8, y9, y10, rfl, s2, old⟩
        rw [hxl] at old
        have s12 := same_tr s1 s2
        have allc : ∀ c ∈ cs, okCell d ts c = true := fun c hm => by
          obtain ⟨j, hj⟩ := List.mem_iff_getElem?.mp hm
          exact old j c (by
            rcases Nat.lt_or_ge j cs.length with h | h
            · exact h
            · rw [List.getElem?_eq_none h] at hj
              cases hj) hj
        refine ⟨_, rfl, _, rfl, 1, rfl, l, xs, rfl, sql s12 hl, fun p hp => ?_⟩
        rw [cut_from]
        have sp : Same H (upd H2 p (.lst (xs.drop 1))) := same_tr s12 (snew hp)
        have hp2 : (upd H2 p (.lst (xs.drop 1))) p = some (.lst (xs.drop 1)) := upd_same
        generalize upd H2 p (.lst (xs.drop 1)) = H3 at sp hp2 ⊢
        refine ⟨l, p, xs, xs.drop 1, rfl, sql sp hl, Or.inl (Or.inl hp2), fun D2 hD2 => lc_it (walk_zip (K := K) (a := l) (b := p) (xs := xs) (ys := xs.drop 1) (n := cs.length - 1) (by rw [List.length_drop, hxl]; omega)) (fun n H' => Same H3 H' ∧ H' D2 = some (.lst ((((steps ts cs).take n).filter fun b => !b).map fun _ => V.int 1)))
          ⟨snew hD2, upd_same⟩ (fun n H' _ h => ⟨sql (same_tr sp h.1) hl, Or.inl (Or.inl (h.1 _ _ hp2))⟩) ?_ ?_⟩
        · rintro n z Ha Hb hn' ⟨k1, k2⟩ ⟨Tp, z1, z2, rfl, hT, rfl, f1, f2⟩
          have f1' : xs[n]? = some z1 := f1
          have f2' : xs[n + 1]? = some z2 := by
            have : (xs.drop 1)[n]? = some z2 := f2
            rw [List.getElem?_drop] at this
            rw [show n + 1 = 1 + n by omega]
            exact this
          have sT := snew (o := .tup [z1, z2]) hT
          have sb := same_tr (same_tr sp k1) sT
          obtain ⟨c1, g1, g2, g3⟩ := cell_at sb f1'
          obtain ⟨c2, j1, j2, j3⟩ := cell_at sb f2'
          have hc1 := allc c1 (List.mem_of_getElem? g1)
          unfold okCell at hc1
          rw [Bool.and_eq_true] at hc1
          have hm := of_decide_eq_true hc1.1
          obtain ⟨tb, t1, t2⟩ := find_mem hm
          have er : readsOf ts c1 = inner tb.rs c1.2 := by
            unfold readsOf
            rw [t1]
          have hpl : (c1.2.length : Int) = d := by
            have h := hc1.2
            unfold okPoint at h
            rw [Bool.and_eq_true] at h
            exact of_decide_eq_true h.1
          have hst : (steps ts cs)[n]? = some (memC c2 (readsOf ts c1)) := by
            unfold steps
            rw [List.getElem?_map, get_range hn', ← g2, ← j2]
            rfl
          have ft := filter_take (p := fun b : Bool => !b) hst
          refine ⟨Tp, _, rfl, Or.inl (Or.inl upd_same), rfl, _, _, rfl, _, _, rfl, rfl, rfl, _, rfl, _, rfl, _, rfl, .ref a, z1, ts, d, c1.1, c1.2, tb, rfl, dpm sb _ _ hv, g3, O, hl6, hpl, W.d1, W.d3, t1, fun q1 Hc xc hq1 sc qc dc => ?_⟩
          refine ⟨cellD c2, _, dpm sc _ _ j3, .lst (Or.inl (Or.inl qc)) dc, shaped_cell (hc c2 (List.mem_of_getElem? j1)).2, shaped_cells (inner_ok (W.oks tb t2)), _, rfl, ?_⟩
          have em : (((inner tb.rs c1.2).map cellD).any fun z => PyData.eqv z (cellD c2)) = memC c2 (readsOf ts c1) := by
            rw [er]
            rfl
          rw [em]
          have k2c := sc _ _ (sT _ _ k2)
          have k1c := same_tr k1 (same_tr sT sc)
          cases hmc : memC c2 (readsOf ts c1) with
          | false =>
            rw [hmc] at ft
            refine iteT ?_
            refine ⟨_, k2c, ?_, smut k1c hD2, ?_⟩
            · rw [List.length_map]
              have h1 := List.length_filter_le (fun b : Bool => !b) ((steps ts cs).take n)
              rw [List.length_take] at h1
              rw [sizeLine_eq]
              omega
            · rw [upd_same, ft, List.map_append]
              rfl
          | true =>
            rw [hmc] at ft
            refine iteF ?_
            refine ⟨k1c, ?_⟩
            rw [ft, show (if (!true) = true then [true] else ([] : List Bool)) = [] from rfl, List.append_nil]
            exact k2c
        · rintro H4 ⟨k1, k2⟩
          have esl : (steps ts cs).length = cs.length - 1 := by
            unfold steps
            rw [List.length_map, List.length_range]
          rw [← esl, List.take_length] at k2
          have s4 := same_tr sp k1
          refine ⟨_, rfl, Nat.zero_le _, fun p2 hp2 => ⟨.list (cs.map cellD), .list [], .lst (sql (same_tr s4 (snew hp2)) hl) (dpsm (same_tr s4 (snew hp2)) _ _ hd), .lst (Or.inl (Or.inl upd_same)) .nil, shaped_cells fun c h => (hc c h).2, shaped_list (by intro y hy; cases hy), _, rfl, ?_⟩⟩
          rw [eqv_map_nil]
          have ea : cs.all (okCell d ts) = true := List.all_eq_true.mpr allc
          have s5 := same_tr s4 (snew (o := .lst []) hp2)
          cases hce : cs.isEmpty with
          | true =>
            refine iteF ?_
            have z := q _ s5
            unfold isWay at z
            rw [hce] at z
            exact z
          | false =>
            refine iteT ?_
            refine ⟨_, rfl, Nat.zero_le _, fun p3 hp3 => ⟨.list (((steps ts cs).filter fun b => !b).map fun _ => .int 1), .list [], .lst (Or.inl (Or.inl (snew hp3 _ _ (snew hp2 _ _ k2)))) (dps_of fun _ _ => .int 1), .lst (Or.inl (Or.inl upd_same)) .nil, shaped_list (by
              intro y hy
              obtain ⟨z, _, rfl⟩ := List.mem_map.mp hy
              exact good_int 1), shaped_list (by intro y hy; cases hy), ?_⟩⟩
            rw [eqv_map_nil, nots_empty]
            have z := q _ (same_tr s5 (snew (o := .lst []) hp3))
            unfold isWay at z
            rw [hce, ea] at z
            exact z
end
end Fr

namespace Fr
open PySem PySem.Spec PyProof.Rows L2
abbrev s_Lbent : Stmt := topS 40
theorem sc_Lbent : FnScope ["_law_rng_here", "_law_way", "_law_spot", "_law_kind", "_law_word", "_law_point", "_law_other"] ["_law_rng_here", "_law_way"] (defScope s_Lbent) := ⟨rfl, rfl, rfl, by decide +kernel, rfl, by decide +kernel, by decide +kernel⟩
-- slots: 0 _law_rng_here, 1 _law_way, 2 _law_spot, 3 _law_kind, 4 _law_word, 5 _law_point, 6 _law_other
section
variable {P : Program} {w : World} {K : PySem.W.Frag} {mg : Str → Option Value} {base : Heap}
theorem slA_ans {H : Hp} {a : Addr} {xs : List V} {lo hi : Option Int} {Q : VK} (h : SqT K H a xs) (q : ∀ p H', Same H H' → SqT K H' p (cutV xs lo hi) → Q (.ref p) H') : rSlA K (.ref a) lo hi H Q :=
  ⟨a, xs, rfl, h, fun ⟨h1, h2⟩ => q a H same_refl (by
    have e : cutV xs lo hi = xs := by
      unfold cutV
      rw [h1, h2, List.drop_zero, Nat.sub_zero, List.take_length]
    rw [e]
    exact h), fun _ p hp => q p _ (snew hp) (Or.inl (Or.inl upd_same))⟩
theorem noPart {σ : L2.St} {H : Hp} {Q : Option Int → Hp → Prop} (h : Q none H) : tNoPart σ H Q := h
theorem catA_ans {H : Hp} {a b : Addr} {xs ys : List V} {Q : VK} (h1 : SqT K H a xs) (h2 : SqT K H b ys) (hl : xs.length + ys.length ≤ sizeLine) (q : ∀ p H', Same H H' → SqT K H' p (xs ++ ys) → Q (.ref p) H') : rCatA K (.ref a) (.ref b) H Q :=
  ⟨a, b, xs, ys, rfl, rfl, h1, h2, hl, fun e => q b H same_refl (by rw [e]; exact h2), fun _ e => q a H same_refl (by rw [e, List.append_nil]; exact h1), fun _ _ p hp => q p _ (snew hp) (Or.inl (Or.inl upd_same))⟩
theorem cut_ints (ps : List Int) (lo hi : Option Int) : ∃ qs : List Int, cutV (ps.map V.int) lo hi = qs.map V.int ∧ qs.length ≤ ps.length := by
  unfold cutV
  refine ⟨(ps.drop _).take _, (by rw [← List.map_drop, ← List.map_take]), ?_⟩
  rw [List.length_take, List.length_drop]
  omega
theorem cut_mem {xs : List V} {lo hi : Option Int} {y : V} (h : y ∈ cutV xs lo hi) : y ∈ xs := by
  unfold cutV at h
  exact List.mem_of_mem_drop (List.mem_of_mem_take h)
/-- a value that looks like a cell -/
def CellV (K : PySem.W.Frag) (H : Hp) (y : V) : Prop := ∃ c : Cell, Dp K H y (cellD c) ∧ c.2.length ≤ 1001 ∧ PyData.strOk c.1 = true
theorem CellV.mono {H H' : Hp} {y : V} (h : CellV K H y) (e : Same H H') : CellV K H' y := by
  obtain ⟨c, h1, h2⟩ := h
  exact ⟨c, dpm e _ _ h1, h2⟩
theorem CellV.st {H H' : Hp} {y : V} (h : CellV K H y) (e : ST H H') : CellV K H' y := by
  obtain ⟨c, h1, h2⟩ := h
  exact ⟨c, dpt e _ _ (noL_cell c) h1, h2⟩
theorem cellV_of {H : Hp} {u pa : Addr} {x : Str} {ps : List Int} (h : H u = some (.tup [.str x, .ref pa])) (hp : SqT K H pa (ps.map V.int)) (hl : ps.length ≤ 1001) (ok : PyData.strOk x = true) : CellV K H (.ref u) := ⟨(x, ps), .tup (Or.inl (Or.inl h)) (.cons (.str _) (.cons (.tup hp (ints_dps ps)) .nil)), hl, ok⟩
theorem cells_of {H : Hp} : ∀ {ys : List V}, (∀ y ∈ ys, CellV K H y) → ∃ cs : List Cell, DpAll K H ys (cs.map cellD) ∧ ∀ c ∈ cs, c.2.length ≤ 1001 ∧ PyData.strOk c.1 = true
  | [], _ => ⟨[], .nil, by intro c hc; cases hc⟩
  | y :: ys, h => by
    obtain ⟨c, h1, h2, h3⟩ := h y List.mem_cons_self
    obtain ⟨cs, g1, g2⟩ := cells_of fun z hz => h z (List.mem_cons_of_mem _ hz)
    refine ⟨c :: cs, .cons h1 g1, fun e he => ?_⟩
    rcases List.mem_cons.mp he with rfl | he
    · exact ⟨h2, h3⟩
    · exact g2 e he
def spLbent (K : PySem.W.Frag) : Sp := fun vs H Q _ => ∃ (r l : Addr) (m : Nat) (xs : List V) (cs : List Cell), vs = [.ref r, .ref l] ∧ RngOk H r m ∧ m ≤ 2 ^ 59 ∧ H l = some (.lst xs) ∧ l ≠ r ∧ DpAll K H xs (cs.map cellD) ∧ 1 ≤ cs.length ∧ cs.length ≤ 50 ∧ (∀ c ∈ cs, 1 ≤ c.2.length ∧ c.2.length ≤ 1000 ∧ PyData.strOk c.1 = true) ∧
  ∀ H2 p H' ys, Dr r (m + 2) H H2 → Same H2 H' → H' p = some (.lst ys) → H2 p = none → (∀ y ∈ ys, CellV K H' y) → ys.length ≤ 600 → Q (.ref p) H'
theorem ok_bent {f : Addr} {fd : FuncData} (F : Fun K "_law_bent" "_law_bent" s_Lbent f fd) (T : Txt mg) (c_Ldraw : C8.Cal P w K mg base 1 "_law_draw" spDraw []) : FnOk P w K mg base CX0 2 f fd ["_law_rng_here", "_law_way"] (spLbent K) := by
  refine F.ok sc_Lbent (fun vs H Q E h => ?_) (fun cdv A outer sh H vs Q E hr h => ?_)
  · obtain ⟨r, l, m, xs, cs, rfl, _⟩ := h
    rfl
  · obtain ⟨r, l, m, xs, cs, rfl, rok, hm, hl, nlr, hd, h1, h500, hc, q⟩ := h
    refine ⟨_, (pss_cons (ps_par (i := 2) (j := 3) (by rfl) sc_Lbent.nd rfl rfl (by decide) rfl rfl (pa_cons (C8.pe_c c_Ldraw hr (by decide) (by rfl) (pa_cons (pv 0) (pa_cons (pe_callB call_len_seq (by rfl) T.b_len PySem.boot_len (pa_cons (pv 1) pa_nil)) pa_nil))) (pa_cons (C8.pe_c c_Ldraw hr (by decide) (by rfl) (pa_cons (pv 0) (pa_cons pe_int pa_nil))) pa_nil)) (by rfl))
  (pss_cons (ps_asg (pe_ix ix_list (pv 1) (pv 2) (fun _ _ => rfl)) (pg_tup rfl (pgs_cons (pg_name (i := 4) sc_Lbent.nd rfl (by first | exact Or.inl rfl | exact Or.inr rfl)) (pgs_cons (pg_name (i := 5) sc_Lbent.nd rfl (by first | exact Or.inl rfl | exact Or.inr rfl)) pgs_nil))))
  (pss_cons (ps_if (pt_cmpR op_eq (pv 3) pe_int (nomark _))
    (pss_one (ps_ret (pe_op op_cat (pe_slice sl_list (pv 1) po_none (po_some (pv 2))) (pe_slice sl_list (pv 1) (po_some (pe_op op_add (pv 2) pe_int)) po_none))))
    pss_nil)
  (pss_cons (ps_if (pt_cmpR op_eq (pv 3) pe_int (nomark _))
    (pss_one (ps_ret (pe_op op_cat (pe_op op_cat (pe_slice sl_list (pv 1) po_none (po_some (pv 2))) (pe_lst (pa_cons (pe_ix ix_list (pv 1) (pv 2) (fun _ _ => rfl)) pa_nil))) (pe_slice sl_list (pv 1) (po_some (pv 2)) po_none))))
    pss_nil)
  (pss_cons (ps_set (i := 6) sc_Lbent.nd rfl (by first | exact Or.inl rfl | exact Or.inr rfl) (pe_lst (pa_cons (pe_tup (pa_cons pe_str (pa_cons (pv 5) pa_nil))) (pa_cons (pe_tup (pa_cons (pv 4) (pa_cons (pe_slice sl_tupA (pv 5) po_none (po_some (pe_un un_neg pe_int))) pa_nil))) (pa_cons (pe_tup (pa_cons (pv 4) (pa_cons (pe_op op_catA (pv 5) (pe_tup (pa_cons pe_int pa_nil))) pa_nil))) (pa_cons (pe_tup (pa_cons (pv 4) (pa_cons (pe_op op_catA (pe_tup (pa_cons (pe_op op_add (pe_ix ix_tup (pv 5) pe_int (fun _ _ => rfl)) pe_int) pa_nil)) (pe_slice sl_tupA (pv 5) (po_some pe_int) po_none)) pa_nil))) pa_nil))))))
  (pss_cons (ps_set (i := 6) sc_Lbent.nd rfl (by first | exact Or.inl rfl | exact Or.inr rfl) (pe_op op_cat (pv 6) (pe_lst (pa_cons (pe_tup (pa_cons (pv 4) (pa_cons (pe_op op_catA (pe_tup (pa_cons (pe_op op_sub pe_int pe_int) pa_nil)) (pe_slice sl_tupA (pv 5) (po_some pe_int) po_none)) pa_nil))) (pa_cons (pe_tup (pa_cons (pv 4) (pa_cons (pv 5) pa_nil))) pa_nil)))))
  (pss_one (ps_ret (pe_op op_cat (pe_op op_cat (pe_slice sl_list (pv 1) po_none (po_some (pv 2))) (pe_lst (pa_cons (pe_ix ix_list (pv 6) (pe_op op_sub (pv 3) pe_int) (fun _ _ => rfl)) pa_nil))) (pe_slice sl_list (pv 1) (po_some (pe_op op_add (pv 2) pe_int)) po_none)))))))))), ?_⟩
    have hxl : xs.length = cs.length := by rw [dps_len hd, List.length_map]
    refine ⟨_, rfl, _, rfl, l, xs, rfl, Or.inl (Or.inl (Or.inl hl)), r, _, m, rfl, rok, by omega, by omega, by omega, fun k1 H1 k10 k11 D1 => ?_⟩
    refine ⟨_, rfl, r, 8, _, rfl, D1.ok, by omega, by decide, by decide, fun k2 H2 k20 k21 D2 => ⟨_, _, rfl, ?_⟩⟩
    have DD : Dr r (m + 2) H H2 := ⟨fun b nb => by rw [D2.ne b nb, D1.ne b nb], D2.ok⟩
    have st2 := ST.dr rok DD
    have hl2 : H2 l = some (.lst xs) := by rw [DD.ne l nlr]; exact hl
    have all2 : ∀ y ∈ xs, CellV K H2 y := fun y hy => by
      obtain ⟨i, hi⟩ := List.mem_iff_getElem?.mp hy
      obtain ⟨dd, e1, e2⟩ := dps_get hd hi
      rw [List.getElem?_map] at e1
      obtain ⟨c, e3, rfl⟩ := Option.map_eq_some_iff.mp e1
      have g := hc c (List.mem_of_getElem? e3)
      exact CellV.st ⟨c, e2, by omega, g.2.2⟩ st2
    have fin : ∀ p H' ys, Same H2 H' → H' p = some (.lst ys) → H2 p = none → (∀ y ∈ ys, CellV K H' y) → ys.length ≤ 600 → Q (.ref p) H' := fun p H' ys => q H2 p H' ys DD
    have kl : k1 < (xs.length : Int) := k11
    obtain ⟨v, a1, a2, a3⟩ := atI_in k10 kl
    obtain ⟨dd, e1, e2⟩ := dps_get hd a3
    rw [List.getElem?_map] at e1
    obtain ⟨c, e3, rfl⟩ := Option.map_eq_some_iff.mp e1
    have gc := hc c (List.mem_of_getElem? e3)
    obtain ⟨b, zs, rfl, hbt, hbd⟩ := dtup (dpt st2 _ _ (noL_cell c) e2)
    obtain ⟨z1, z2, rfl, y1, y2⟩ := dps2 hbd
    obtain rfl := dstr y1
    obtain ⟨pa, ps, rfl, hpt, hpd⟩ := dtup y2
    obtain rfl := dps_ints hpd
    refine ⟨_, rfl, _, rfl, l, xs, k1, .ref b, rfl, rfl, Or.inl (Or.inl hl2), a1, b, _, rfl, hbt, rfl, _, _, rfl, _, _, rfl, rfl, ?_⟩
    have n500 : xs.length ≤ 50 := by omega
    -- kind 0
    refine ⟨_, rfl, rfl, _, rfl, ?_⟩
    refine ite2 (fun _ => ?_) (fun _ => ?_)
    · refine ⟨_, rfl, _, rfl, k1, rfl, l, xs, rfl, Or.inl (Or.inl hl2), fun p1 n1 => ?_⟩
      refine ⟨_, rfl, _, rfl, k1, 1, rfl, rfl, _, rfl, l, xs, rfl, Or.inl (Or.inl (snew n1 _ _ hl2)), fun p2 n2 => ?_⟩
      have s1 := snew (o := .lst (cutV xs none (some k1))) n1
      have s2 := snew (o := .lst (cutV xs (some (k1 + 1)) none)) n2
      refine ⟨p1, p2, _, _, rfl, rfl, s2 _ _ upd_same, upd_same, ?_, fun p3 n3 => ?_⟩
      · have g1 := cutV_length xs none (some k1)
        have g2 := cutV_length xs (some (k1 + 1)) none
        rw [sizeLine_eq]
        omega
      · have s3 := snew (o := .lst (cutV xs none (some k1) ++ cutV xs (some (k1 + 1)) none)) n3
        have s13 := same_tr s1 (same_tr s2 s3)
        refine fin p3 _ _ s13 upd_same (free_of (same_tr s1 s2) n3) (fun y hy => ?_) ?_
        · rcases List.mem_append.mp hy with h | h
          · exact (all2 y (cut_mem h)).mono s13
          · exact (all2 y (cut_mem h)).mono s13
        · have g1 := cutV_length xs none (some k1)
          have g2 := cutV_length xs (some (k1 + 1)) none
          rw [List.length_append]
          omega
    · -- kind 1
      refine ⟨_, rfl, rfl, _, rfl, ?_⟩
      refine ite2 (fun _ => ?_) (fun _ => ?_)
      · refine ⟨_, rfl, _, rfl, k1, rfl, l, xs, rfl, Or.inl (Or.inl hl2), fun p1 n1 => ?_⟩
        have s1 := snew (o := .lst (cutV xs none (some k1))) n1
        refine ⟨_, rfl, _, rfl, l, xs, k1, .ref b, rfl, rfl, Or.inl (Or.inl (s1 _ _ hl2)), a1, (by show 1 ≤ sizeLine; decide), fun p2 n2 => ?_⟩
        have s2 := snew (o := .lst [V.ref b]) n2
        refine ⟨p1, p2, _, _, rfl, rfl, s2 _ _ upd_same, upd_same, ?_, fun p3 n3 => ?_⟩
        · have g1 := cutV_length xs none (some k1)
          rw [sizeLine_eq]
          show _ + 1 ≤ _
          omega
        · have s3 := snew (o := .lst (cutV xs none (some k1) ++ [V.ref b])) n3
          have s13 := same_tr s1 (same_tr s2 s3)
          refine ⟨_, rfl, _, rfl, k1, rfl, l, xs, rfl, Or.inl (Or.inl (s13 _ _ hl2)), fun p4 n4 => ?_⟩
          have s4 := snew (o := .lst (cutV xs (some k1) none)) n4
          refine ⟨p3, p4, _, _, rfl, rfl, s4 _ _ upd_same, upd_same, ?_, fun p5 n5 => ?_⟩
          · have g1 := cutV_length xs none (some k1)
            have g2 := cutV_length xs (some k1) none
            rw [sizeLine_eq, List.length_append]
            show _ + 1 + _ ≤ _
            omega
          · have s5 := snew (o := .lst ((cutV xs none (some k1) ++ [V.ref b]) ++ cutV xs (some k1) none)) n5
            have s15 := same_tr s13 (same_tr s4 s5)
            refine fin p5 _ _ s15 upd_same (free_of (same_tr s13 s4) n5) (fun y hy => ?_) ?_
            · refine (all2 y ?_).mono s15
              rcases List.mem_append.mp hy with h | h
              · rcases List.mem_append.mp h with h | h
                · exact cut_mem h
                · rw [List.mem_singleton.mp h]
                  exact a2
              · exact cut_mem h
            · have g1 := cutV_length xs none (some k1)
              have g2 := cutV_length xs (some k1) none
              rw [List.length_append, List.length_append]
              show _ + 1 + _ ≤ _
              omega
      · -- the others
        rename_i hk0 hk1
        have q0 : k2 ≠ 0 := fun e => hk0 (by rw [e]; exact decide_eq_true rfl)
        have q1' : k2 ≠ 1 := fun e => hk1 (by rw [e]; exact decide_eq_true rfl)
        have okx : PyData.strOk ("x" : Str) = true := by decide +kernel
        have hc1 : c.2.length ≤ 1001 := by omega
        have sz : sizeLine = 16777216 := sizeLine_eq
        have z2 : 2 ≤ sizeLine := by decide
        have z1 : 1 ≤ sizeLine := by decide
        refine ⟨_, rfl, z2, fun u1 m1 => ?_⟩
        have s1 := snew (o := .tup [V.str "x", V.ref pa]) m1
        have v1 : CellV K _ (.ref u1) := cellV_of (upd_same (H := H2) (o := .tup [V.str "x", V.ref pa])) (sqt s1 hpt) hc1 okx
        -- point[:-1]
        refine ⟨_, rfl, _, rfl, 1, rfl, _, rfl, ?_⟩
        refine slA_ans (sqt s1 hpt) fun p2 H4 s2 t2 => ?_
        obtain ⟨ps2, e2, l2⟩ := cut_ints c.2 none (some (-1))
        rw [e2] at t2
        refine ⟨z2, fun u2 m2 => ?_⟩
        have s3 := snew (o := .tup [V.str c.1, V.ref p2]) m2
        have v2 : CellV K _ (.ref u2) := cellV_of (upd_same (H := H4) (o := .tup [V.str c.1, V.ref p2])) (sqt s3 t2) (by omega) gc.2.2
        have s13 := same_tr s1 (same_tr s2 s3)
        -- point + (0,)
        refine ⟨_, rfl, _, rfl, z1, fun w1 m3 => ?_⟩
        have s4 := snew (o := .tup [V.int 0]) m3
        have s14 := same_tr s13 s4
        refine catA_ans (ys := [V.int 0]) (sqt s14 hpt) (Or.inl (Or.inl upd_same)) (by rw [List.length_map, sz]; show _ + 1 ≤ _; omega) fun p3 H6 s5 t3 => ?_
        refine ⟨z2, fun u3 m4 => ?_⟩
        have s6 := snew (o := .tup [V.str c.1, V.ref p3]) m4
        have v3 : CellV K _ (.ref u3) := cellV_of (ps := c.2 ++ [0]) (upd_same (H := H6) (o := .tup [V.str c.1, V.ref p3])) (sqt s6 (by rw [List.map_append]; exact t3)) (by rw [List.length_append]; show _ + 1 ≤ _; omega) gc.2.2
        have s16 := same_tr s14 (same_tr s5 s6)
        -- (point[0] + 1,) + point[1:]
        obtain ⟨x0, hx0⟩ : ∃ x0, c.2[0]? = some x0 := by
          cases hcc : c.2 with
          | nil =>
            rw [hcc] at gc
            exact absurd gc.1 (by decide)
          | cons x r => exact ⟨x, rfl⟩
        have hat : atI (c.2.map V.int) (0 : Int) = some (.int x0) := atI_nat (j := 0) (by rw [List.getElem?_map, hx0]; rfl)
        refine ⟨_, rfl, _, rfl, pa, _, 0, _, rfl, rfl, sqt s16 hpt, hat, _, _, rfl, rfl, z1, fun w2 m5 => ?_⟩
        have s7 := snew (o := .tup [V.int (x0 + 1)]) m5
        have s17 := same_tr s16 s7
        refine ⟨_, rfl, 1, rfl, ?_⟩
        refine noPart ?_
        refine slA_ans (sqt s17 hpt) fun p4 H8 s8 t4 => ?_
        obtain ⟨ps4, e4, l4⟩ := cut_ints c.2 (some 1) none
        rw [e4] at t4
        refine catA_ans (xs := [V.int (x0 + 1)]) (Or.inl (Or.inl (s8 _ _ upd_same))) t4 (by rw [List.length_map, sz]; show 1 + _ ≤ _; omega) fun p5 H9 s9 t5 => ?_
        refine ⟨z2, fun u4 m6 => ⟨(by show 4 ≤ sizeLine; decide), fun o1 m7 => ?_⟩⟩
        have s10 := snew (o := .tup [V.str c.1, V.ref p5]) m6
        have v4 : CellV K _ (.ref u4) := cellV_of (ps := (x0 + 1) :: ps4) (upd_same (H := H9) (o := .tup [V.str c.1, V.ref p5])) (sqt s10 t5) (by rw [List.length_cons]; omega) gc.2.2
        have s11 := snew (o := .lst [V.ref u1, V.ref u2, V.ref u3, V.ref u4]) m7
        have ho1 := upd_same (H := upd H9 u4 (.tup [V.str c.1, V.ref p5])) (a := o1) (o := .lst [V.ref u1, V.ref u2, V.ref u3, V.ref u4])
        have s411 := same_tr s7 (same_tr s8 (same_tr s9 (same_tr s10 s11)))
        have s311 := same_tr s4 (same_tr s5 (same_tr s6 s411))
        have w1' := v1.mono (same_tr s2 (same_tr s3 s311))
        have w2' := v2.mono s311
        have w3' := v3.mono s411
        have w4' := v4.mono s11
        have sA := same_tr s16 s411
        clear v1 v2 v3 v4
        generalize upd (upd H9 u4 (.tup [V.str c.1, V.ref p5])) o1 (.lst [V.ref u1, V.ref u2, V.ref u3, V.ref u4]) = HA at w1' w2' w3' w4' sA ho1 ⊢
        -- the two more
        refine ⟨_, rfl, _, rfl, _, _, rfl, rfl, z1, fun w3 m8 => ?_⟩
        have r1 := snew (o := .tup [V.int (0 - 1)]) m8
        refine ⟨_, rfl, 1, rfl, ?_⟩
        refine noPart ?_
        refine slA_ans (sqt (same_tr sA r1) hpt) fun p6 HB r2 t6 => ?_
        rw [e4] at t6
        refine catA_ans (xs := [V.int (0 - 1)]) (Or.inl (Or.inl (r2 _ _ upd_same))) t6 (by rw [List.length_map, sz]; show 1 + _ ≤ _; omega) fun p7 HC r3 t7 => ?_
        refine ⟨z2, fun u5 m9 => ?_⟩
        have r4 := snew (o := .tup [V.str c.1, V.ref p7]) m9
        have v5 : CellV K _ (.ref u5) := cellV_of (ps := (0 - 1) :: ps4) (upd_same (H := HC) (o := .tup [V.str c.1, V.ref p7])) (sqt r4 t7) (by rw [List.length_cons]; omega) gc.2.2
        have r14 := same_tr r1 (same_tr r2 (same_tr r3 r4))
        refine ⟨_, rfl, _, rfl, z2, fun u6 m10 => ⟨z2, fun o2 m11 => ?_⟩⟩
        have r5 := snew (o := .tup [V.str c.1, V.ref pa]) m10
        have v6 : CellV K _ (.ref u6) := cellV_of (upd_same (o := .tup [V.str c.1, V.ref pa])) (sqt (same_tr sA (same_tr r14 r5)) hpt) hc1 gc.2.2
        have r6 := snew (o := .lst [V.ref u5, V.ref u6]) m11
        have r16 := same_tr r14 (same_tr r5 r6)
        refine ⟨o1, o2, _, _, rfl, rfl, r16 _ _ ho1, upd_same, (by show 4 + 2 ≤ sizeLine; decide), fun o3 m12 => ?_⟩
        have r7 := snew (o := .lst ([V.ref u1, V.ref u2, V.ref u3, V.ref u4] ++ [V.ref u5, V.ref u6])) m12
        have r17 := same_tr r16 r7
        have ho3 := upd_same (H := upd (upd (upd HC u5 (.tup [V.str c.1, V.ref p7])) u6 (.tup [V.str c.1, V.ref pa])) o2 (.lst [V.ref u5, V.ref u6])) (a := o3) (o := .lst ([V.ref u1, V.ref u2, V.ref u3, V.ref u4] ++ [V.ref u5, V.ref u6]))
        have x1 := w1'.mono r17
        have x2 := w2'.mono r17
        have x3 := w3'.mono r17
        have x4 := w4'.mono r17
        have x5 := v5.mono (same_tr r5 (same_tr r6 r7))
        have x6 := v6.mono (same_tr r6 r7)
        have sZ := same_tr sA r17
        clear v5 v6 w1' w2' w3' w4'
        generalize upd (upd (upd (upd HC u5 (.tup [V.str c.1, V.ref p7])) u6 (.tup [V.str c.1, V.ref pa])) o2 (.lst [V.ref u5, V.ref u6])) o3 (.lst ([V.ref u1, V.ref u2, V.ref u3, V.ref u4] ++ [V.ref u5, V.ref u6])) = HZ at x1 x2 x3 x4 x5 x6 sZ ho3 ⊢
        -- what is told
        obtain ⟨ov, g1, g2, _⟩ := atI_in (xs := [V.ref u1, V.ref u2, V.ref u3, V.ref u4] ++ [V.ref u5, V.ref u6]) (i := k2 - 2) (by omega) (by show k2 - 2 < 6; omega)
        have hov : CellV K HZ ov := by
          simp only [List.cons_append, List.nil_append, List.mem_cons, List.not_mem_nil, or_false] at g2
          rcases g2 with rfl | rfl | rfl | rfl | rfl | rfl <;> assumption
        refine ⟨_, rfl, _, rfl, k1, rfl, l, xs, rfl, Or.inl (Or.inl (sZ _ _ hl2)), fun p8 n8 => ?_⟩
        have y1' := snew (o := .lst (cutV xs none (some k1))) n8
        refine ⟨_, rfl, _, rfl, _, _, rfl, rfl, o3, _, _, ov, rfl, rfl, Or.inl (Or.inl (y1' _ _ ho3)), g1, z1, fun p9 n9 => ?_⟩
        have y2' := snew (o := .lst [ov]) n9
        refine ⟨p8, p9, _, _, rfl, rfl, y2' _ _ upd_same, upd_same, ?_, fun p10 n10 => ?_⟩
        · have g1 := cutV_length xs none (some k1)
          rw [sz]
          show _ + 1 ≤ _
          omega
        · have y3' := snew (o := .lst (cutV xs none (some k1) ++ [ov])) n10
          have y13 := same_tr y1' (same_tr y2' y3')
          refine ⟨_, rfl, _, rfl, k1, 1, rfl, rfl, _, rfl, l, xs, rfl, Or.inl (Or.inl (y13 _ _ (sZ _ _ hl2))), fun p11 n11 => ?_⟩
          have y4' := snew (o := .lst (cutV xs (some (k1 + 1)) none)) n11
          refine ⟨p10, p11, _, _, rfl, rfl, y4' _ _ upd_same, upd_same, ?_, fun p12 n12 => ?_⟩
          · have g1 := cutV_length xs none (some k1)
            have g2 := cutV_length xs (some (k1 + 1)) none
            rw [sz, List.length_append]
            show _ + 1 + _ ≤ _
            omega
          · have y5' := snew (o := .lst ((cutV xs none (some k1) ++ [ov]) ++ cutV xs (some (k1 + 1)) none)) n12
            have y15 := same_tr y13 (same_tr y4' y5')
            refine fin p12 _ _ (same_tr sZ y15) upd_same (free_of (same_tr sZ (same_tr y13 y4')) n12) (fun y hy => ?_) ?_
            · rcases List.mem_append.mp hy with h | h
              · rcases List.mem_append.mp h with h | h
                · exact (all2 y (cut_mem h)).mono (same_tr sZ y15)
                · rw [List.mem_singleton.mp h]
                  exact hov.mono y15
              · exact (all2 y (cut_mem h)).mono (same_tr sZ y15)
            · have g1 := cutV_length xs none (some k1)
              have g2 := cutV_length xs (some (k1 + 1)) none
              rw [List.length_append, List.length_append]
              show _ + 1 + _ ≤ _
              omega
end
end Fr

namespace Fr
open PySem PySem.Spec PyProof.Rows L2
abbrev s_law : Stmt := topS 41
theorem sc_law : FnScope ["_law_script", "_law_rng_here", "_law_lap", "_law_dims", "_law_rows", "_law_made", "_law_turn", "_law_most", "_law_way", "_law_axis", "_law_later", "_law_some", "_law_kept", "_law_due", "_law_told"] ["_law_script"] (defScope s_law) := ⟨rfl, rfl, rfl, by decide +kernel, rfl, by decide +kernel, by decide +kernel⟩
-- slots: 0 _law_script, 1 _law_rng_here, 2 _law_lap, 3 _law_dims, 4 _law_rows, 5 _law_made, 6 _law_turn, 7 _law_most, 8 _law_way, 9 _law_axis, 10 _law_later, 11 _law_some, 12 _law_kept, 13 _law_due, 14 _law_told
theorem minus_len {p v : List Int} {d : Int} (h1 : (p.length : Int) = d) (h2 : (v.length : Int) = d) : ((minus p v).length : Int) = d := by
  unfold minus
  rw [List.length_zipWith]
  omega
/-- what a cell of the system reads are cells of it -/
theorem inner_okc {d : Int} {ts : List Tb} {tb : Tb} {p : List Int} (O : OkT d ts) (ht : tb ∈ ts) (lv : ∀ r ∈ tb.rs, (r.v.length : Int) = d) (hp : (p.length : Int) = d) : ∀ c ∈ inner tb.rs p, okCell d ts c = true := by
  intro c hc
  unfold inner at hc
  obtain ⟨r, hr, e⟩ := List.mem_filterMap.mp hc
  split at e
  · rename_i hall
    cases e
    unfold okCell okPoint
    rw [Bool.and_eq_true, Bool.and_eq_true]
    exact ⟨decide_eq_true (O.here tb ht r hr), decide_eq_true (minus_len hp (lv r hr)), hall⟩
  · cases e
theorem readsOf_perm {ts us : List Tb} (p : List.Perm us ts) (nd : (ts.map (·.n)).Nodup) (c : Cell) : readsOf us c = readsOf ts c := by
  unfold readsOf
  cases h : ts.find? (fun t => decide (t.n = c.1)) with
  | none =>
    have e : us.find? (fun t => decide (t.n = c.1)) = none := List.find?_eq_none.mpr fun t ht => List.find?_eq_none.mp h t (p.mem_iff.mp ht)
    rw [e]
  | some tb =>
    have hn : tb.n = c.1 := by simpa using List.find?_some h
    rw [find_nodup ((p.map (·.n)).nodup_iff.mpr nd) (p.mem_iff.mpr (List.mem_of_find?_eq_some h)) hn]
theorem isWay_perm {ts us : List Tb} (p : List.Perm us ts) (nd : (ts.map (·.n)).Nodup) (d : Int) (cs : List Cell) : isWay d us cs = isWay d ts cs := by
  have h1 : okCell d us = okCell d ts := funext fun c => by
    unfold okCell
    rw [decide_eq_decide.mpr (p.map (·.n)).mem_iff]
  have h2 : steps us cs = steps ts cs := by
    unfold steps
    refine List.map_congr_left fun i _ => ?_
    rw [readsOf_perm p nd]
  unfold isWay
  rw [h1, h2]
theorem two_ok (b : Bool) : PyData.canLay0 (.list [.bool b, .bool b]) = true ∧ PyData.showable (.list [.bool b, .bool b]) = true ∧ PyData.depth (.list [.bool b, .bool b]) ≤ 60 ∧ ((∃ i, (PyData.list [.bool b, .bool b]) = .int i) ∨ (PyData.shown (.list [.bool b, .bool b])).length ≤ sizeLine) := by
  refine ⟨by simp [PyData.canLay0, PyData.canLayAll0], by simp [PyData.showable, PyData.showableAll], by simp [PyData.depth, PyData.depthAll], .inr ?_⟩
  cases b
  · simp only [PyData.shown, PyData.shownAll]
    decide +kernel
  · simp only [PyData.shown, PyData.shownAll]
    decide +kernel
section
variable {P : Program} {w : World} {K : PySem.W.Frag} {mg : Str → Option Value} {base : Heap}
/-- a list that the judges are asked of -/
def Asked (K : PySem.W.Frag) (H : Hp) (l : Addr) : Prop := ∃ (ys : List V) (cs : List Cell), H l = some (.lst ys) ∧ DpAll K H ys (cs.map cellD) ∧ cs.length ≤ 1000 ∧ ∀ c ∈ cs, c.2.length ≤ 100000 ∧ PyData.strOk c.1 = true
theorem Asked.mono {H H' : Hp} {l : Addr} (h : Asked K H l) (e : Same H H') : Asked K H' l := by
  obtain ⟨ys, cs, h1, h2, h3⟩ := h
  exact ⟨ys, cs, e _ _ h1, dpsm e _ _ h2, h3⟩
theorem asked_of {H : Hp} {l : Addr} {ys : List V} (h : H l = some (.lst ys)) (hy : ∀ y ∈ ys, CellV K H y) (hl : ys.length ≤ 600) : Asked K H l := by
  obtain ⟨cs, h1, h2⟩ := cells_of hy
  refine ⟨ys, cs, h, h1, ?_, fun c hc => ⟨by have := (h2 c hc).1; omega, (h2 c hc).2⟩⟩
  have := dps_len h1
  rw [List.length_map] at this
  omega
def spLaw7 (K : PySem.W.Frag) (TT : List (Addr × Str)) : Sp := fun vs H Q _ => ∃ (a : Addr) (ns : List Int), vs = [.ref a] ∧ SqL K H a (ns.map V.int) ∧ ns.length ≤ 63 ∧ LamX.Tabs TT H ∧ ∀ H', Q (.bl true) H'
theorem ok_law7 {f C : Addr} {fd : FuncData} {TT : List (Addr × Str)} (F : Fun K "law" "law" s_law f fd) (T : Txt mg) (zr : mg "repr" = none) (TC : TxtC K mg C) (c_Lrng : C8.Cal P w K mg base 1 "_law_rng" (spRng K) []) (c_Ldraw : C8.Cal P w K mg base 1 "_law_draw" spDraw [])
    (c_Lmade_rows : C8.Cal P w K mg base 3 "_law_made_rows" (spRows K) []) (m_System : C8.Mak P w K mg base 5 "System" C (spInit K C TT) [.int 1000003]) (p_names : Prp P w K mg base 1 C "names" (spNames K C))
    (c_Lfrom : C8.Cal P w K mg base 1 "_law_from" (spLfrom K) []) (c_Lbent : C8.Cal P w K mg base 2 "_law_bent" (spLbent K) []) (c_Lis_way : C8.Cal P w K mg base 2 "_law_is_way" (spLway K) [])
    (c_is_way : C8.Cal P w K mg base 6 "is_way" (spIsWay K C) []) (k_is_way : CalK P w K mg base 6 "is_way" (spIsWay K C) ["cells", "system"] kw2) : FnG P w K mg base 8 f fd ["_law_script"] (spLaw7 K TT) := by
  refine Fun_okG F sc_law (fun vs H Q E h => ?_) (fun cdv A outer sh H vs Q E hr h => ?_)
  · obtain ⟨a, ns, rfl, _⟩ := h
    rfl
  · obtain ⟨a, ns, rfl, ha, hl, hT, q⟩ := h
    refine ⟨_, (pss_cons (ps_set (i := 1) sc_law.nd rfl (by first | exact Or.inl rfl | exact Or.inr rfl) (C8.pe_c c_Lrng hr.room (by decide) (by rfl) (pa_cons (pv 0) pa_nil)))
  (pss_cons (ps_for PassesOwn.never rfl (pi_range1 (by rfl) T.b_range (pa_cons (pe_op op_add pe_int (pe_callB (call_min2 rfl) (by rfl) T.b_min (by decide +kernel) (pa_cons pe_int (pa_cons (pe_callB call_len_seq (by rfl) T.b_len PySem.boot_len (pa_cons (pv 0) pa_nil)) pa_nil)))) pa_nil)) (pg_name (i := 2) sc_law.nd rfl (by first | exact Or.inl rfl | exact Or.inr rfl))
    (pss_cons (ps_set (i := 3) sc_law.nd rfl (by first | exact Or.inl rfl | exact Or.inr rfl) (pe_op op_add pe_int (C8.pe_c c_Ldraw hr.room (by decide) (by rfl) (pa_cons (pv 1) (pa_cons pe_int pa_nil)))))
    (pss_cons (ps_set (i := 4) sc_law.nd rfl (by first | exact Or.inl rfl | exact Or.inr rfl) (C8.pe_c c_Lmade_rows hr.room (by decide) (by rfl) (pa_cons (pv 1) (pa_cons (pv 3) (pa_cons (pe_op op_add pe_int (C8.pe_c c_Ldraw hr.room (by decide) (by rfl) (pa_cons (pv 1) (pa_cons pe_int pa_nil)))) (pa_cons pe_int (pa_cons pe_int pa_nil)))))))
    (pss_cons (ps_set (i := 5) sc_law.nd rfl (by first | exact Or.inl rfl | exact Or.inr rfl) (C8.pe_mk m_System hr.room (by decide) (by rfl) (pa_cons (pv 3) (pa_cons (pv 4) pa_nil))))
    (pss_one (ps_for PassesOwn.never rfl (pi_range1 (by rfl) T.b_range (pa_cons pe_int pa_nil)) (pg_name (i := 6) sc_law.nd rfl (by first | exact Or.inl rfl | exact Or.inr rfl))
      (pss_cons (ps_set (i := 7) sc_law.nd rfl (by first | exact Or.inl rfl | exact Or.inr rfl) (pe_ix ix_list (pe_lst (pa_cons pe_int (pa_cons pe_int (pa_cons (pe_op op_pow pe_int pe_int) pa_nil)))) (C8.pe_c c_Ldraw hr.room (by decide) (by rfl) (pa_cons (pv 1) (pa_cons pe_int pa_nil))) (fun _ _ => rfl)))
      (pss_cons (ps_set (i := 8) sc_law.nd rfl (by first | exact Or.inl rfl | exact Or.inr rfl) (pe_lst (pa_cons (pe_tup (pa_cons (pe_ix ix_list (pe_pr (pv 5) p_names hr.room (by decide) rfl) (C8.pe_c c_Ldraw hr.room (by decide) (by rfl) (pa_cons (pv 1) (pa_cons (pe_callB call_len_seq (by rfl) T.b_len PySem.boot_len (pa_cons (pv 4) pa_nil)) pa_nil))) (fun _ _ => rfl)) (pa_cons (pe_callTy call_tuple_of (by rfl) T.b_tuple (by decide +kernel) (pa_cons (pe_lc (own := [("_law_axis", 9)]) (g := gName 9) (tt := tYes) (by rfl) sc_law.nd (pi_range1 (by rfl) T.b_range (pa_cons (pv 3) pa_nil)) (blkOk_by (N := ["_law_script", "_law_rng_here", "_law_lap", "_law_dims", "_law_rows", "_law_made", "_law_turn", "_law_most", "_law_way", "_law_axis", "_law_later", "_law_some", "_law_kept", "_law_due", "_law_told"]) (sc := defScope s_law) (by decide +kernel)) (fun _ _ _ _ _ => (pg_name (i := 9) sc_law.nd rfl (by first | exact Or.inl rfl | exact Or.inr rfl))) (fun _ _ _ _ _ => pts_nil) (fun _ _ _ _ _ => (C8.pe_c c_Ldraw hr.room (by decide) (by rfl) (pa_cons (pv 1) (pa_cons (pv 7) pa_nil))))) pa_nil)) pa_nil))) pa_nil)))
      (pss_cons (ps_set (i := 10) sc_law.nd rfl (by first | exact Or.inl rfl | exact Or.inr rfl) (C8.pe_c c_Lfrom hr.room (by decide) (by rfl) (pa_cons (pv 4) (pa_cons (pe_ix ix_list (pv 8) pe_int (fun _ _ => rfl)) pa_nil))))
      (pss_cons (ps_csq (ps_while PassesOwn.never (PW.pt (pw_and (pt_cmpR (op_neD hr.room.units) (pv 10) (pe_lst pa_nil) (nomark _)) (pw_and1 (pt_cmpR op_lt (pe_callB call_len_seq (by rfl) T.b_len PySem.boot_len (pa_cons (pv 8) pa_nil)) pe_int (nomark _)))))
        (pss_cons (ps_expr (pe_bm PySem.F.plainAttrs_list PySem.F.slot_list_append PySem.F.type_list_append mt_append (pv 8) (pa_cons (pe_ix ix_list (pv 10) (C8.pe_c c_Ldraw hr.room (by decide) (by rfl) (pa_cons (pv 1) (pa_cons (pe_callB call_len_seq (by rfl) T.b_len PySem.boot_len (pa_cons (pv 10) pa_nil)) pa_nil))) (fun _ _ => rfl)) pa_nil)))
        (pss_one (ps_set (i := 10) sc_law.nd rfl (by first | exact Or.inl rfl | exact Or.inr rfl) (C8.pe_c c_Lfrom hr.room (by decide) (by rfl) (pa_cons (pv 4) (pa_cons (pe_ix ix_list (pv 8) (pe_un un_neg pe_int) (fun _ _ => rfl)) pa_nil))))))))
      (pss_one (ps_for PassesOwn.never rfl (pi_tup (pe_tup (pa_cons (pv 8) (pa_cons (C8.pe_c c_Lbent hr.room (by decide) (by rfl) (pa_cons (pv 1) (pa_cons (pv 8) pa_nil))) (pa_cons (pe_revL (pv 8)) (pa_cons (pe_slice sl_list (pv 8) po_none (po_some pe_int)) (pa_cons (pe_lst pa_nil) pa_nil))))))) (pg_name (i := 11) sc_law.nd rfl (by first | exact Or.inl rfl | exact Or.inr rfl))
        (pss_cons (ps_par (i := 12) (j := 13) (by rfl) sc_law.nd rfl rfl (by decide) rfl rfl (pa_cons (pe_callTy call_list_of (by rfl) T.b_list (by decide +kernel) (pa_cons (pv 11) pa_nil)) (pa_cons (C8.pe_c c_Lis_way hr.room (by decide) (by rfl) (pa_cons (pv 3) (pa_cons (pv 4) (pa_cons (pv 11) pa_nil)))) pa_nil)) (by rfl))
        (pss_cons (ps_set (i := 14) sc_law.nd rfl (by first | exact Or.inl rfl | exact Or.inr rfl) (pe_lst (pa_cons (C8.pe_c c_is_way hr.room (by decide) (by rfl) (pa_cons (pv 5) (pa_cons (pv 11) pa_nil))) (pa_cons (pe_ck k_is_way hr.room (by decide) (by rfl) (pk_cons (pv 11) (pk_cons (pv 5) pk_nil))) pa_nil))))
        (pss_one (ps_if (PW.pt (pw_or (pt_cmpR op_ne (pe_callB (call_reprD hr.free hr.room.units1) (by rfl) zr (by decide +kernel) (pa_cons (pv 14) pa_nil)) (pe_callB (call_reprD hr.free hr.room.units1) (by rfl) zr (by decide +kernel) (pa_cons (pe_lst (pa_cons (pv 13) (pa_cons (pv 13) pa_nil))) pa_nil)) (nomark _)) (pw_or1 (pt_cmpR (op_neD hr.room.units) (pv 11) (pv 12) (nomark _)))))
          (pss_one (ps_ret pe_bl))
          pss_nil))))))))))))))))
  (pss_one (ps_ret pe_bl)))), ?_⟩
    refine ⟨_, rfl, a, ns, rfl, ha, hl, fun r H1 hr1 s1 rok => ?_⟩
    have hT1 := hT.ext s1
    refine ⟨_, rfl, a, _, rfl, Or.inl (sql s1 ha), ?_⟩
    have hlap : (6 + (if ((ns.map V.int).length : Int) < 10 then ((ns.map V.int).length : Int) else 10)) ≤ 16 ∧ 0 ≤ (6 + (if ((ns.map V.int).length : Int) < 10 then ((ns.map V.int).length : Int) else 10)) := by
      split <;> omega
    refine ⟨10, _, rfl, _, _, rfl, rfl, _, rfl, by omega, by omega, ?_⟩
    generalize (6 + (if ((ns.map V.int).length : Int) < 10 then ((ns.map V.int).length : Int) else 10)) = laps at hlap
    refine for_range (fun i σ H' => ∃ (y2 y3 y4 y5 y6 y7 y8 y9 y10 y11 y12 y13 y14 : Option V), σ = [some (.ref a), some (.ref r), y2, y3, y4, y5, y6, y7, y8, y9, y10, y11, y12, y13, y14] ∧ RngOk H' r (2000 * i) ∧ LamX.Tabs TT H')
      ⟨none, none, none, none, none, none, none, none, none, none, none, none, none, rfl, rok, hT1⟩ ?_ ?_
    · rintro i σ H2 hi ⟨y2, y3, y4, y5, y6, y7, y8, y9, y10, y11, y12, y13, y14, rfl, rok2, hT2⟩
      have hi16 : i < 16 := by omega
      refine ⟨_, rfl, r, 3, _, rfl, rok2, by omega, by decide, by decide, fun k1 H3 k10 k11 D3 => ⟨_, _, rfl, rfl, ?_⟩⟩
      have hT3 := tabs_dr hT2 rok2 D3
      refine ⟨_, rfl, _, rfl, _, rfl, r, 3, _, rfl, D3.ok, by omega, by decide, by decide, fun k2 H4 k20 k21 D4 => ⟨_, _, rfl, rfl, ?_⟩⟩
      have hT4 := tabs_dr hT3 D3.ok D4
      refine ⟨r, 1 + k1, 1 + k2, 12, 3, _, cutr H4 r, rfl, RS.cut D4.ok, by omega, by omega, by omega, by omega, by decide, by decide, by decide, by decide, by omega, fun rp B5 H5 ts s5 R5 Lr5 hlen O5 ok5 _ _ _ => ?_⟩
      have Dr5 := Lr5.dp
      have hT5 := tabs_cut hT4 D4.ok (same_tr s5 R5.s)
      have Dr5' := dpd (sd_bs R5.s R5.n) _ _ Dr5
      refine ⟨_, rfl, _, rfl, fun x dx nx ndx nex => ?_⟩
      have sx : Same H5 (upd (upd H5 dx (.own x)) x (.ins C dx [])) := same_tr (snew ndx) (snew (by rw [upd_ne nex.symm]; exact nx))
      have OS : OkSys (1 + k1) 1000003 ts := ⟨by omega, by omega, by decide, by omega, by omega, O5⟩
      refine ⟨x, dx, 1 + k1, 1000003, .ref rp, ts, rfl, upd_same, hT5.ext sx, OS, dpm (same_tr R5.s sx) _ _ Dr5, fun H6 E6 hT6 S6 => ⟨rfl, ?_⟩⟩
      have keep : ∀ b o, H5 b = some o → (∀ ps, o ≠ .tbl ps) → H6 b = some o := fun b o e n => E6 b o (sx b o e) (ne_of_none e nx) n
      have rok6 : RngOk H6 r (2000 * i + 1 + 1 + 1000) := by
        obtain ⟨c1, c2, c3, e1, e2⟩ := R5.ok
        exact ⟨c1, c2, c3, keep _ _ e1 (fun ps z => by cases z), e2⟩
      have L6 := LS.own rok6 hT6
      have DR : Dp K (bs H6 r) (.ref rp) (.list (ts.map Tb.d)) := dpd (fun b o h d => by
        obtain ⟨h1, h2, h3⟩ := of_bs h
        exact bs_of (keep b o h1 h3) h2 h3) _ _ Dr5'
      have SB := S6.bs rok6 fun kvs => kvt (ST.bs rok6)
      generalize bs H6 r = BB at L6 DR SB
      have pS := List.mergeSort_perm ts (leK Tb.n)
      have srl : (srt ts).length = ts.length := List.length_mergeSort _
      have lvs : ∀ t ∈ ts, ∀ rd ∈ t.rs, (rd.v.length : Int) = 1 + k1 := fun t ht rd hrd => by
        have h := O5.reads t ht rd hrd
        unfold isRead at h
        rw [Bool.and_eq_true, Bool.and_eq_true] at h
        exact of_decide_eq_true h.2.1
      have oks : ∀ t ∈ ts, ∀ rd ∈ t.rs, PyData.strOk rd.t = true := fun t ht rd hrd => by
        obtain ⟨t', h1, h2⟩ := List.mem_map.mp (O5.here t ht rd hrd)
        rw [← h2]
        exact ok5 t' h1
      have WO : WaysOk (1 + k1) ts := ⟨by omega, by omega, O5.nodup, lvs, fun t ht => by have := few_reads O5 ht; omega, oks⟩
      have WS : WaysOk (1 + k1) (srt ts) := ⟨by omega, by omega, (pS.map (·.n)).nodup_iff.mpr O5.nodup, fun t ht => lvs t (pS.mem_iff.mp ht), fun t ht => by have := few_reads O5 (pS.mem_iff.mp ht); omega, fun t ht => oks t (pS.mem_iff.mp ht)⟩
      have ew : ∀ cs, isWay (1 + k1) (srt ts) cs = isWay (1 + k1) ts cs := fun cs => isWay_perm pS O5.nodup (1 + k1) cs
      refine ⟨4, rfl, by decide, by decide, for_range (fun j σ H' => ∃ (y6 y7 y8 y9 y10 y11 y12 y13 y14 : Option V), σ = [some (.ref a), some (.ref r), some (.int (0 + (i : Int))), some (.int (1 + k1)), some (.ref rp), some (.ref x), y6, y7, y8, y9, y10, y11, y12, y13, y14] ∧ LS TT r (2000 * i + 1 + 1 + 1000 + 40 * j) BB H')
        ⟨y6, y7, y8, y9, y10, y11, y12, y13, y14, rfl, L6⟩ ?_ ?_⟩
      · rintro j σ H7 hj ⟨y6, y7, y8, y9, y10, y11, y12, y13, y14, rfl, L7⟩
        have hj4 : j < 4 := hj
        -- most
        refine ⟨10, 30, rfl, rfl, ⟨by decide, by decide, by decide⟩, (by show 3 ≤ sizeLine; decide), fun p hp => ?_⟩
        have L8 := L7.new (o := .lst ([4, 12, 10 ^ (30 : Int).toNat].map V.int)) hp
        have p8 : (upd H7 p (.lst ([4, 12, 10 ^ (30 : Int).toNat].map V.int))) p = some (.lst ([4, 12, 10 ^ (30 : Int).toNat].map V.int)) := upd_same
        refine ⟨_, rfl, r, 3, _, rfl, L8.rs.ok, by omega, by decide, by decide, fun k3 H9 k30 k31 D9 => ?_⟩
        have L9 := L8.dr D9
        have p9 : H9 p = some (.lst ([4, 12, 10 ^ (30 : Int).toNat].map V.int)) := by rw [D9.ne _ (L7.rs.ne hp).symm]; exact p8
        obtain ⟨mv, m1, m2, _⟩ := atI_in (xs := [4, 12, 10 ^ (30 : Int).toNat].map V.int) k30 k31
        obtain ⟨most, m3, rfl⟩ := List.mem_map.mp m2
        have hmost : 0 < most ∧ most.natAbs < 2 ^ 200 := by
          simp only [List.mem_cons, List.not_mem_nil, or_false] at m3
          rcases m3 with rfl | rfl | rfl <;> exact ⟨by decide +kernel, by decide +kernel⟩
        refine ⟨p, _, k3, _, rfl, rfl, Or.inl (Or.inl p9), m1, ?_⟩
        -- the first cell
        obtain ⟨sdx, stt, skv, o1, o2, o3⟩ := id SB.ob
        refine ⟨_, rfl, x, sdx, _, rfl, L9.rs.s _ _ o1, x, 1 + k1, 1000003, srt ts, rfl, SB.mono L9.rs.s, fun np H10 hnp s10 hn10 => ?_⟩
        have L10 := L9.grow s10
        obtain ⟨ra, rxs, era, rsq, rdp⟩ := dlst DR
        cases era
        have rxl : rxs.length = ts.length := by rw [dps_len rdp, List.length_map]
        refine ⟨_, rfl, _, rfl, rp, rxs, rfl, Or.inl (sql L10.rs.s rsq), r, _, _, rfl, L10.rs.ok, by omega, by omega, by omega, fun k4 H11 k40 k41 D11 => ?_⟩
        have L11 := L10.dr D11
        have rnp : np ≠ r := (L9.rs.ne hnp).symm
        have hn11 : H11 np = some (.lst ((srt ts).map fun t => V.str t.n)) := by rw [D11.ne _ rnp]; exact hn10
        obtain ⟨nv, n1, _, n3⟩ := atI_in (xs := (srt ts).map fun t => V.str t.n) k40 (by rw [List.length_map]; omega)
        rw [List.getElem?_map] at n3
        obtain ⟨tb, htb, rfl⟩ := Option.map_eq_some_iff.mp n3
        refine ⟨np, _, k4, _, rfl, rfl, Or.inl (Or.inl hn11), n1, ?_⟩
        have htm : tb ∈ ts := pS.mem_iff.mp (List.mem_of_getElem? htb)
        refine ⟨_, rfl, _, rfl, by omega, by omega, fun Dl hDl => ?_⟩
        have bDl := free_of L11.rs.s hDl
        have rDl := L11.rs.ne hDl
        refine lc_it walk_range (fun n H' => ∃ ps : List Int, ps.length = n ∧ (∀ z ∈ ps, 0 ≤ z) ∧ H' Dl = some (.lst (ps.map V.int)) ∧ LS TT r (2000 * i + 1 + 1 + 1000 + 40 * j + 1 + 1 + n) BB H')
          ⟨[], rfl, (by intro z hz; cases hz), upd_same, L11.new hDl⟩ (fun _ _ _ _ => True.intro) ?_ ?_
        · rintro n y _ Ha hn ⟨ps, e1, e2, e3, La⟩ ⟨rfl, rfl⟩
          refine ⟨rfl, yes_if ?_⟩
          refine ⟨_, rfl, _, rfl, r, most, _, rfl, La.rs.ok, by omega, hmost.1, hmost.2, fun d Hb d0 d1 Db => ?_⟩
          have Lb := La.dr Db
          have hb : Hb Dl = some (.lst (ps.map V.int)) := by rw [Db.ne _ rDl.symm]; exact e3
          refine ⟨_, hb, small1000 (by rw [List.length_map]; omega), ps ++ [d], by rw [List.length_append, e1]; rfl, ?_, ?_, (Lb.put bDl rDl hb).mono (by omega)⟩
          · intro z hz
            rcases List.mem_append.mp hz with h | h
            · exact e2 z h
            · rw [List.mem_singleton.mp h]
              exact d0
          · rw [upd_same, List.map_append]
            rfl
        · rintro Hc ⟨ps, e1, e2, e3, Lc⟩
          have hpl : (ps.length : Int) = 1 + k1 := by omega
          have hmS : tb.n ∈ ts.map (·.n) := List.mem_map.mpr ⟨tb, htm, rfl⟩
          have hok0 : okCell (1 + k1) ts (tb.n, ps) = true := by
            unfold okCell okPoint
            rw [Bool.and_eq_true, Bool.and_eq_true]
            exact ⟨decide_eq_true hmS, decide_eq_true hpl, List.all_eq_true.mpr fun z hz => decide_eq_true (e2 z hz)⟩
          refine ⟨Dl, _, rfl, Or.inl ⟨Or.inl (Or.inl e3), fun t ht => ⟨(by show 2 ≤ sizeLine; decide), fun u hu => ⟨(by show 1 ≤ sizeLine; decide), fun wl hwl => ?_⟩⟩⟩⟩
          have Ld := (Lc.new (o := .tup (ps.map V.int)) ht).new (o := .tup [.str tb.n, .ref t]) hu
          have DH : Dp K (upd (upd Hc t (.tup (ps.map V.int))) u (.tup [.str tb.n, .ref t])) (.ref u) (cellD (tb.n, ps)) := .tup (Or.inl (Or.inl upd_same)) (.cons (.str _) (.cons (.tup (Or.inl (Or.inl (snew hu _ _ upd_same))) (ints_dps ps)) .nil))
          have bwl := free_of Ld.rs.s hwl
          have rwl := Ld.rs.ne hwl
          have Le := Ld.new (o := .lst [V.ref u]) hwl
          have DHe := dpm (snew (o := .lst [V.ref u]) hwl) _ _ DH
          have he : (upd (upd (upd Hc t (.tup (ps.map V.int))) u (.tup [.str tb.n, .ref t])) wl (.lst [V.ref u])) wl = some (.lst [V.ref u]) := upd_same
          generalize upd (upd (upd Hc t (.tup (ps.map V.int))) u (.tup [.str tb.n, .ref t])) wl (.lst [V.ref u]) = He at Le DHe he ⊢
          clear DH Ld
          -- what a cell of the system reads
          have ask : ∀ {c : Cell}, okCell (1 + k1) ts c = true → ∃ tb', ts.find? (fun t => decide (t.n = c.1)) = some tb' ∧ (c.2.length : Int) = 1 + k1 ∧ (∀ c' ∈ inner tb'.rs c.2, okCell (1 + k1) ts c' = true) ∧ (inner tb'.rs c.2).length ≤ 12 := fun {c} h => by
            unfold okCell at h
            rw [Bool.and_eq_true] at h
            obtain ⟨tb', t1, t2⟩ := find_mem (of_decide_eq_true h.1)
            have hp' : (c.2.length : Int) = 1 + k1 := by
              have h2 := h.2
              unfold okPoint at h2
              rw [Bool.and_eq_true] at h2
              exact of_decide_eq_true h2.1
            refine ⟨tb', t1, hp', inner_okc O5 t2 (lvs tb' t2) hp', ?_⟩
            have h1 := inner_len tb'.rs c.2
            have h2 := few_reads O5 t2
            omega
          have okstr : ∀ {c : Cell}, okCell (1 + k1) ts c = true → PyData.strOk c.1 = true ∧ (c.2.length : Int) = 1 + k1 := fun {c} h => by
            unfold okCell okPoint at h
            rw [Bool.and_eq_true, Bool.and_eq_true] at h
            obtain ⟨t', h1, h2⟩ := List.mem_map.mp (of_decide_eq_true h.1)
            exact ⟨by rw [← h2]; exact ok5 t' h1, of_decide_eq_true h.2.1⟩
          refine ⟨_, rfl, _, rfl, wl, _, 0, .ref u, rfl, rfl, Or.inl (Or.inl he), rfl, ?_⟩
          obtain ⟨tb0, t01, hp0, okl0, len0⟩ := ask hok0
          refine ⟨.ref rp, .ref u, ts, 1 + k1, tb.n, ps, tb0, rfl, dpm Le.rs.s _ _ DR, DHe, O5, by omega, hp0, by omega, by omega, t01, fun ll0 Hf lxs0 hl0 sf g01 g02 => ?_⟩
          have dl0 : DL K Hf ll0 (inner tb0.rs ps) := ⟨lxs0, g01, g02⟩
          have Lf := Le.grow sf
          -- on and on
          refine ⟨fun σ H' => ∃ (ws : List V) (cs : List Cell) (y10 : Option V), σ = [some (.ref a), some (.ref r), some (.int (0 + (i : Int))), some (.int (1 + k1)), some (.ref rp), some (.ref x), some (.int (0 + (j : Int))), some (.int most), some (.ref wl), y9, y10, y11, y12, y13, y14] ∧
              LS TT r (2000 * i + 1 + 1 + 1000 + 40 * j + 30) BB H' ∧ H' wl = some (.lst ws) ∧ DpAll K H' ws (cs.map cellD) ∧ 1 ≤ cs.length ∧ cs.length ≤ 20 ∧ (∀ c ∈ cs, okCell (1 + k1) ts c = true), ?_, ?_⟩
          rotate_left
          refine ⟨fun n σ H' => ∃ (ws : List V) (cs lcs : List Cell) (ll : Addr), σ = [some (.ref a), some (.ref r), some (.int (0 + (i : Int))), some (.int (1 + k1)), some (.ref rp), some (.ref x), some (.int (0 + (j : Int))), some (.int most), some (.ref wl), y9, some (.ref ll), y11, y12, y13, y14] ∧
              LS TT r (2000 * i + 1 + 1 + 1000 + 40 * j + 1 + 1 + (1 + k1).toNat + cs.length) BB H' ∧ H' wl = some (.lst ws) ∧ DpAll K H' ws (cs.map cellD) ∧ 1 ≤ cs.length ∧ cs.length ≤ 20 ∧ (∀ c ∈ cs, okCell (1 + k1) ts c = true) ∧ DL K H' ll lcs ∧ (∀ c ∈ lcs, okCell (1 + k1) ts c = true) ∧ lcs.length ≤ 12 ∧ ll ≠ wl ∧ n = 20 - cs.length,
            ⟨_, [.ref u], [(tb.n, ps)], inner tb0.rs ps, ll0, rfl, Lf.mono (by omega), sf _ _ he, .cons (dpm sf _ _ DHe) .nil, Nat.le_refl _, (by show 1 ≤ 20; decide), (by intro c hc; rw [List.mem_singleton.mp hc]; exact hok0), dl0, okl0, len0, (ne_of_none he hl0).symm, rfl⟩, ?_⟩
          rintro n σ Hg ⟨ws, cs, lcs, ll, rfl, Lg, hw, dw, c1, c20, okc, dll, okl, ll12, nll, rfl⟩
          have wsl : ws.length = cs.length := by rw [dps_len dw, List.length_map]
          obtain ⟨lxs, hll, llen⟩ := dll.len
          refine ⟨_, rfl, Nat.zero_le _, fun p1 hp1 => ⟨.list (lcs.map cellD), .list [], (dll.grow (snew hp1)).dp, .lst (Or.inl (Or.inl upd_same)) .nil, shaped_cells fun c h => (okstr (okl c h)).1, shaped_list (by intro y hy; cases hy), _, rfl, ?_⟩⟩
          rw [eqv_map_nil]
          have Lh := Lg.new (o := .lst []) hp1
          have hwh := snew (o := .lst []) hp1 _ _ hw
          have dwh := dpsm (snew (o := .lst []) hp1) _ _ dw
          have dlh := dll.grow (snew (o := .lst []) hp1)
          have hlh := snew (o := .lst []) hp1 _ _ hll
          generalize upd Hg p1 (.lst []) = Hh at Lh hwh dwh dlh hlh ⊢
          cases hle : lcs.isEmpty with
          | true =>
            refine iteF ?_
            exact iteF ⟨ws, cs, _, rfl, Lh.mono (by omega), hwh, dwh, c1, c20, okc⟩
          | false =>
            refine iteT ?_
            refine ⟨_, rfl, wl, ws, rfl, Or.inl (Or.inl (Or.inl hwh)), _, 20, rfl, rfl, _, rfl, ?_⟩
            refine ite2 (fun hlt => ?_) (fun hlt => ?_)
            · have hlt := of_decide_eq_true hlt
              have lpos : 1 ≤ lcs.length := by
                cases lcs with
                | nil => cases hle
                | cons _ _ => exact Nat.succ_le_succ (Nat.zero_le _)
              refine ⟨fun σ' H' => ∃ m', m' < 20 - cs.length ∧ ∃ (ws : List V) (cs lcs : List Cell) (ll : Addr), σ' = [some (.ref a), some (.ref r), some (.int (0 + (i : Int))), some (.int (1 + k1)), some (.ref rp), some (.ref x), some (.int (0 + (j : Int))), some (.int most), some (.ref wl), y9, some (.ref ll), y11, y12, y13, y14] ∧
                LS TT r (2000 * i + 1 + 1 + 1000 + 40 * j + 1 + 1 + (1 + k1).toNat + cs.length) BB H' ∧ H' wl = some (.lst ws) ∧ DpAll K H' ws (cs.map cellD) ∧ 1 ≤ cs.length ∧ cs.length ≤ 20 ∧ (∀ c ∈ cs, okCell (1 + k1) ts c = true) ∧ DL K H' ll lcs ∧ (∀ c ∈ lcs, okCell (1 + k1) ts c = true) ∧ lcs.length ≤ 12 ∧ ll ≠ wl ∧ m' = 20 - cs.length, fun _ _ h => h, ?_⟩
              refine ⟨_, rfl, Or.inl ⟨rfl, _, Or.inl (Or.inl hwh)⟩, _, rfl, _, rfl, _, rfl, ll, lxs, rfl, Or.inl (Or.inl (Or.inl hlh)), r, _, _, rfl, Lh.rs.ok, by omega, by omega, by omega, fun k5 H12 k50 k51 D12 => ?_⟩
              have L12 := Lh.dr D12
              have st12 := ST.dr Lh.rs.ok D12
              have hw12 : H12 wl = some (.lst ws) := by rw [D12.ne _ rwl.symm]; exact hwh
              obtain ⟨_, _, _, erk, _⟩ := Lh.rs.ok
              have llr : ll ≠ r := fun e => by
                obtain ⟨lys, hls, hdl⟩ := dlh
                rw [e, erk] at hls
                cases hls
                have hl1 := dps_len hdl
                cases lcs with
                | nil => cases hle
                | cons c0 lcs =>
                  cases hdl with
                  | cons g1 _ => cases g1
              have hl12 : H12 ll = some (.lst lxs) := by rw [D12.ne _ llr]; exact hlh
              obtain ⟨lv, b1, _, b3⟩ := atI_in (xs := lxs) k50 k51
              have dl12 : DL K H12 ll lcs := dlh.step st12 (D12.ne _ llr)
              obtain ⟨lys, q1, q2⟩ := dl12
              rw [hl12] at q1
              cases q1
              obtain ⟨dd, f1, f2⟩ := dps_get q2 b3
              rw [List.getElem?_map] at f1
              obtain ⟨cn, f3, rfl⟩ := Option.map_eq_some_iff.mp f1
              have okn := okl cn (List.mem_of_getElem? f3)
              refine ⟨ll, _, k5, lv, rfl, rfl, Or.inl (Or.inl hl12), b1, wl, ws, lv, rfl, rfl, hw12, small1000 (by omega), ?_⟩
              have st13 := ST.put (o := .lst (ws ++ [lv])) hw12
              have L13 := L12.put (o := .lst (ws ++ [lv])) bwl rwl hw12
              have hw13 : (upd H12 wl (.lst (ws ++ [lv]))) wl = some (.lst (ws ++ [lv])) := upd_same
              have f13 := dpt st13 _ _ (noL_cell cn) f2
              have dw13 := dpst (st12.tr st13) _ _ (noLs_map noL_cell cs) dwh
              obtain ⟨tbn, tn1, hpn, okn', lnn⟩ := ask okn
              refine ⟨_, rfl, _, rfl, 1, rfl, wl, _, -1, lv, rfl, rfl, Or.inl (Or.inl hw13), atI_last _ _, .ref rp, lv, ts, 1 + k1, cn.1, cn.2, tbn, rfl, dpm L13.rs.s _ _ DR, f13, O5, by omega, hpn, by omega, by omega, tn1, fun ll2 H14 lxs2 hl2 s14 g1 g2 => ?_⟩
              refine ⟨20 - (cs.length + 1), by omega, ws ++ [lv], cs ++ [cn], inner tbn.rs cn.2, ll2, rfl, (L13.grow s14).mono (by rw [List.length_append]; show _ ≤ _ + (_ + 1); omega), s14 _ _ hw13, ?_, ?_, ?_, ?_, ⟨lxs2, g1, g2⟩, okn', lnn, (ne_of_none hw13 hl2).symm, by rw [List.length_append]; rfl⟩
              · rw [List.map_append]
                exact dps_snoc (dpsm s14 _ _ dw13) (dpm s14 _ _ f13)
              · rw [List.length_append]
                exact Nat.le_add_left _ _
              · rw [List.length_append]
                show _ + 1 ≤ 20
                omega
              · intro c hc
                rcases List.mem_append.mp hc with h | h
                · exact okc c h
                · rw [List.mem_singleton.mp h]
                  exact okn
            · exact ⟨ws, cs, _, rfl, Lh.mono (by omega), hwh, dwh, c1, c20, okc⟩
          -- the judges
          rintro σ Hg ⟨ws, cs, y10, rfl, Lg, hw, dw, c1, c20, okc⟩
          have wsl : ws.length = cs.length := by rw [dps_len dw, List.length_map]
          refine ⟨_, rfl, _, rfl, _, rfl, r, wl, _, ws, cs, rfl, Lg.rs.ok, by omega, hw, rwl.symm, dw, c1, by omega, fun c hc => ⟨by have := (okstr (okc c hc)).2; omega, by have := (okstr (okc c hc)).2; omega, (okstr (okc c hc)).1⟩, fun Hh bl Hi bys D s hbl hfree hall h600 => ?_⟩
          have Lh := Lg.dr D
          have hwi : Hi wl = some (.lst ws) := by
            refine s _ _ ?_
            rw [D.ne _ rwl.symm]
            exact hw
          have dwi : DpAll K Hi ws (cs.map cellD) := dpsm s _ _ (dpst (ST.dr Lg.rs.ok D) _ _ (noLs_map noL_cell cs) dw)
          have Li := Lh.grow s
          have cvi : ∀ y ∈ ws, CellV K Hi y := fun y hy => by
            obtain ⟨n, hn⟩ := List.mem_iff_getElem?.mp hy
            obtain ⟨dd, g1, g2⟩ := dps_get dwi hn
            rw [List.getElem?_map] at g1
            obtain ⟨c, g3, rfl⟩ := Option.map_eq_some_iff.mp g1
            have hk := okstr (okc c (List.mem_of_getElem? g3))
            exact ⟨c, g2, by have := hk.2; omega, hk.1⟩
          have a1 : Asked K Hi wl := asked_of hwi cvi (by omega)
          have a2 : Asked K Hi bl := asked_of hbl hall h600
          refine ⟨_, rfl, wl, ws, rfl, Or.inl (Or.inl hwi), fun rl hrl => ?_⟩
          have sR := snew (o := .lst ws.reverse) hrl
          have a3 : Asked K (upd Hi rl (.lst ws.reverse)) rl := asked_of upd_same (fun y hy => (cvi y (List.mem_reverse.mp hy)).mono sR) (by rw [List.length_reverse]; omega)
          refine ⟨_, rfl, 1, rfl, wl, ws, rfl, Or.inl (Or.inl (sR _ _ hwi)), fun sl hsl => ?_⟩
          have sS := snew (o := .lst (cutV ws none (some 1))) hsl
          have a4 : Asked K (upd (upd Hi rl (.lst ws.reverse)) sl (.lst (cutV ws none (some 1)))) sl := asked_of upd_same (fun y hy => (cvi y (cut_mem hy)).mono (same_tr sR sS)) (by have := cutV_length ws none (some 1); omega)
          refine ⟨Nat.zero_le _, fun el hel => ?_⟩
          have sE := snew (o := .lst []) hel
          have a5 : Asked K (upd (upd (upd Hi rl (.lst ws.reverse)) sl (.lst (cutV ws none (some 1)))) el (.lst [])) el := asked_of upd_same (fun y hy => by cases hy) (Nat.zero_le _)
          refine ⟨(by show 5 ≤ sizeLine; decide), fun tp htp => ?_⟩
          have sT := snew (o := .tup [V.ref wl, V.ref bl, V.ref rl, V.ref sl, V.ref el]) htp
          have x5 := a5.mono sT
          have x4 := a4.mono (same_tr sE sT)
          have x3 := a3.mono (same_tr sS (same_tr sE sT))
          have x2 := a2.mono (same_tr sR (same_tr sS (same_tr sE sT)))
          have x1 := a1.mono (same_tr sR (same_tr sS (same_tr sE sT)))
          have LT := ((((Li.new (o := .lst ws.reverse) hrl).new (o := .lst (cutV ws none (some 1))) hsl).new (o := .lst []) hel).new (o := .tup [V.ref wl, V.ref bl, V.ref rl, V.ref sl, V.ref el]) htp)
          have htp2 : (upd (upd (upd (upd Hi rl (.lst ws.reverse)) sl (.lst (cutV ws none (some 1)))) el (.lst [])) tp (.tup [V.ref wl, V.ref bl, V.ref rl, V.ref sl, V.ref el])) tp = some (.tup [V.ref wl, V.ref bl, V.ref rl, V.ref sl, V.ref el]) := upd_same
          clear a1 a2 a3 a4 a5
          generalize upd (upd (upd (upd Hi rl (.lst ws.reverse)) sl (.lst (cutV ws none (some 1)))) el (.lst [])) tp (.tup [V.ref wl, V.ref bl, V.ref rl, V.ref sl, V.ref el]) = HT at x1 x2 x3 x4 x5 LT htp2 ⊢
          refine ⟨tp, rfl, ⟨_, Or.inl (Or.inl htp2)⟩, for_it (walk_tup (K := K) (a := tp) (xs := [V.ref wl, V.ref bl, V.ref rl, V.ref sl, V.ref el])) (fun n σ H' => ∃ (y11 y12 y13 y14 : Option V), σ = [some (.ref a), some (.ref r), some (.int (0 + (i : Int))), some (.int (1 + k1)), some (.ref rp), some (.ref x), some (.int (0 + (j : Int))), some (.int most), some (.ref wl), y9, y10, y11, y12, y13, y14] ∧ Same HT H')
            ⟨y11, y12, y13, y14, rfl, same_refl⟩ (fun n σ H' _ ⟨_, _, _, _, _, h⟩ => Or.inl (Or.inl (h _ _ htp2))) ?_ ?_⟩
          · rintro n y σ _ Hj hn ⟨y11, y12, y13, y14, rfl, sj⟩ ⟨rfl, hy⟩
            have hl : ∃ l, y = .ref l ∧ Asked K Hj l := by
              match n, hn with
              | 0, _ => cases hy; exact ⟨_, rfl, x1.mono sj⟩
              | 1, _ => cases hy; exact ⟨_, rfl, x2.mono sj⟩
              | 2, _ => cases hy; exact ⟨_, rfl, x3.mono sj⟩
              | 3, _ => cases hy; exact ⟨_, rfl, x4.mono sj⟩
              | 4, _ => cases hy; exact ⟨_, rfl, x5.mono sj⟩
            obtain ⟨l, rfl, ys, cs', hl, hd', hn', hc'⟩ := hl
            have LJ := LT.grow sj
            refine ⟨_, rfl, l, ys, rfl, Or.inl (Or.inl (Or.inl hl)), fun kp hkp => ?_⟩
            have t1 := snew (o := .lst ys) hkp
            refine ⟨_, rfl, _, rfl, _, rfl, 1 + k1, .ref rp, l, ts, ys, cs', rfl, dpm (same_tr LJ.rs.s t1) _ _ DR, O5, by omega, WO, Or.inl (Or.inl (t1 _ _ hl)), dpsm t1 _ _ hd', hn', hc', fun Ha ta => ⟨_, _, rfl, ?_⟩⟩
            have t2 := same_tr t1 ta
            refine ⟨_, rfl, _, rfl, x, l, 1 + k1, 1000003, srt ts, ys, cs', rfl, SB.mono (same_tr LJ.rs.s t2), WS, Or.inl (Or.inl (t2 _ _ hl)), dpsm t2 _ _ hd', hn', hc', fun Hb tb' => ?_⟩
            have t3 := same_tr t2 tb'
            refine ⟨_, rfl, _, rfl, x, l, 1 + k1, 1000003, srt ts, ys, cs', rfl, SB.mono (same_tr LJ.rs.s t3), WS, Or.inl (Or.inl (t3 _ _ hl)), dpsm t3 _ _ hd', hn', hc', fun Hd td => ⟨(by show 2 ≤ sizeLine; decide), fun tl htl => ?_⟩⟩
            have t4 := same_tr t3 td
            have t5 := snew (o := .lst [.bl (isWay (1 + k1) (srt ts) cs'), .bl (isWay (1 + k1) (srt ts) cs')]) htl
            obtain ⟨w1, w2, w3, w4⟩ := two_ok (isWay (1 + k1) (srt ts) cs')
            obtain ⟨v1, v2, v3, v4⟩ := two_ok (isWay (1 + k1) ts cs')
            refine ⟨_, rfl, .ref tl, .list [.bool (isWay (1 + k1) (srt ts) cs'), .bool (isWay (1 + k1) (srt ts) cs')], rfl, .lst (Or.inl (Or.inl upd_same)) (.cons (.bl _) (.cons (.bl _) .nil)), w1, w2, w3, w4, _, rfl, _, rfl, (by show 2 ≤ sizeLine; decide), fun ql hql => ?_⟩
            have t6 := snew (o := .lst [.bl (isWay (1 + k1) ts cs'), .bl (isWay (1 + k1) ts cs')]) hql
            refine ⟨.ref ql, .list [.bool (isWay (1 + k1) ts cs'), .bool (isWay (1 + k1) ts cs')], rfl, .lst (Or.inl (Or.inl upd_same)) (.cons (.bl _) (.cons (.bl _) .nil)), v1, v2, v3, v4, rfl, _, rfl, ?_⟩
            have hdc : decide (V.str (PyData.shown (.list [.bool (isWay (1 + k1) (srt ts) cs'), .bool (isWay (1 + k1) (srt ts) cs')])) = V.str (PyData.shown (.list [.bool (isWay (1 + k1) ts cs'), .bool (isWay (1 + k1) ts cs')]))) = true := by
              rw [ew]
              exact decide_eq_true rfl
            rw [hdc]
            refine iteF ?_
            have t7 := same_tr t4 (same_tr t5 t6)
            have t8 := same_tr ta (same_tr tb' (same_tr td (same_tr t5 t6)))
            obtain ⟨z1, z2⟩ := eqv_cells cs' fun c h => (hc' c h).2
            refine ⟨_, rfl, _, rfl, .list (cs'.map cellD), .list (cs'.map cellD), .lst (Or.inl (Or.inl (t7 _ _ hl))) (dpsm t7 _ _ hd'), .lst (Or.inl (Or.inl (t8 _ _ upd_same))) (dpsm t7 _ _ hd'), z1, z1, _, rfl, ?_⟩
            rw [z2]
            refine iteF ?_
            exact ⟨_, _, _, _, rfl, same_tr sj t7⟩
          · rintro σ Hj ⟨y11, y12, y13, y14, rfl, sj⟩
            exact ⟨_, _, _, _, _, _, _, _, _, rfl, (LT.grow sj).mono (by omega)⟩
      · rintro σ H7 ⟨y6, y7, y8, y9, y10, y11, y12, y13, y14, rfl, L7⟩
        exact ⟨_, _, _, _, _, _, _, _, _, _, _, _, _, rfl, L7.rs.ok.mono (by omega), L7.tb⟩
    · rintro σ H2 ⟨y2, y3, y4, y5, y6, y7, y8, y9, y10, y11, y12, y13, y14, rfl, rok2, hT2⟩
      exact q _
end
end Fr

namespace Fr
open PySem PySem.Spec PyProof.Rows L2
theorem all_mk {l : PySem.W.OpenLaw} {w : World} {K : PySem.W.Frag} {h : Heap} {mg : Str → Option Value} {fa : Addr} (X : K.In h) (G : h.Ns mainGlobals mg) (hfa : mg "law" = some (.ref fa))
    {C pD gD pN gN fR fI c0 Pt T0 f1 f2 f3 f4 f5 f6 f7 f8 f9 f10 f11 f12 f13 f14 f15 f16 f17 f18 f19 f20 f21 f22 : Addr} {od1 an1 od2 an2 od3 an3 od4 an4 od5 an5 od6 an6 od7 an7 od8 an8 od9 an9 od10 an10 od11 an11 od12 an12 od13 an13 od14 an14 od15 an15 od16 an16 od17 an17 od18 an18 od19 an19 od20 an20 od21 an21 od22 an22 odD anD odN anN odR anR odI anI odT : Option Addr} {sl1 sl2 sl3 sl4 sl5 sl6 sl7 sl8 sl9 sl10 sl11 sl12 sl13 sl14 sl15 sl16 sl17 sl18 sl19 sl20 sl21 sl22 slD slN slR slI slT : Array (Option Value)} {oc1 kV1 dc1 pm1 ct1 cd1 oc2 kV2 dc2 pm2 ct2 cd2 oc3 kV3 dc3 pm3 ct3 cd3 oc4 kV4 dc4 pm4 ct4 cd4 oc5 kV5 dc5 pm5 ct5 cd5 oc6 kV6 dc6 pm6 ct6 cd6 oc7 kV7 dc7 pm7 ct7 cd7 oc8 kV8 dc8 pm8 ct8 cd8 oc9 kV9 dc9 pm9 ct9 cd9 oc10 kV10 dc10 pm10 ct10 cd10 oc11 kV11 dc11 pm11 ct11 cd11 oc12 kV12 dc12 pm12 ct12 cd12 oc13 kV13 dc13 pm13 ct13 cd13 oc14 kV14 dc14 pm14 ct14 cd14 oc15 kV15 dc15 pm15 ct15 cd15 oc16 kV16 dc16 pm16 ct16 cd16 oc17 kV17 dc17 pm17 ct17 cd17 oc18 kV18 dc18 pm18 ct18 cd18 oc19 kV19 dc19 pm19 ct19 cd19 oc20 kV20 dc20 pm20 ct20 cd20 oc21 kV21 dc21 pm21 ct21 cd21 oc22 kV22 dc22 pm22 ct22 cd22 ocD kVD dcD pmD ctD cdD ocN kVN dcN pmN ctN cdN ocR kVR dcR pmR ctR cdR ocI kVI dcI pmI ctI ocT : Value} {restD restN : List Value} {tT t_MOST_DIMENSIONS t_MOST_TABLES t_MOST_READS t_MOST_LETTERS : Tok} {nT : Nat}
    (a1 : PySem.W.nsIn K mainGlobals "is_name" = some (some (.ref f1)))
    (l1 : K.lookup f1 = some ⟨oc1, od1, .func (PySem.W.fnOf "is_name" "is_name" (defArgs s_is_name) (defBody s_is_name) (defScope s_is_name) .none kV1 dc1 pm1 an1 cd1 ct1), sl1⟩)
    (e1 : PySem.W.codeIn K cd1 "is_name" = true)
    (k1 : PySem.W.keepIn K (.ref f1) = true)
    (a2 : PySem.W.nsIn K mainGlobals "is_read" = some (some (.ref f2)))
    (l2 : K.lookup f2 = some ⟨oc2, od2, .func (PySem.W.fnOf "is_read" "is_read" (defArgs s_is_read) (defBody s_is_read) (defScope s_is_read) .none kV2 dc2 pm2 an2 cd2 ct2), sl2⟩)
    (e2 : PySem.W.codeIn K cd2 "is_read" = true)
    (k2 : PySem.W.keepIn K (.ref f2) = true)
    (a3 : PySem.W.nsIn K mainGlobals "is_point" = some (some (.ref f3)))
    (l3 : K.lookup f3 = some ⟨oc3, od3, .func (PySem.W.fnOf "is_point" "is_point" (defArgs s_is_point) (defBody s_is_point) (defScope s_is_point) .none kV3 dc3 pm3 an3 cd3 ct3), sl3⟩)
    (e3 : PySem.W.codeIn K cd3 "is_point" = true)
    (k3 : PySem.W.keepIn K (.ref f3) = true)
    (a4 : PySem.W.nsIn K mainGlobals "check_table" = some (some (.ref f4)))
    (l4 : K.lookup f4 = some ⟨oc4, od4, .func (PySem.W.fnOf "check_table" "check_table" (defArgs s_check_table) (defBody s_check_table) (defScope s_check_table) .none kV4 dc4 pm4 an4 cd4 ct4), sl4⟩)
    (e4 : PySem.W.codeIn K cd4 "check_table" = true)
    (k4 : PySem.W.keepIn K (.ref f4) = true)
    (a5 : PySem.W.nsIn K mainGlobals "check_cell" = some (some (.ref f5)))
    (l5 : K.lookup f5 = some ⟨oc5, od5, .func (PySem.W.fnOf "check_cell" "check_cell" (defArgs s_check_cell) (defBody s_check_cell) (defScope s_check_cell) .none kV5 dc5 pm5 an5 cd5 ct5), sl5⟩)
    (e5 : PySem.W.codeIn K cd5 "check_cell" = true)
    (k5 : PySem.W.keepIn K (.ref f5) = true)
    (a6 : PySem.W.nsIn K mainGlobals "check_tables" = some (some (.ref f6)))
    (l6 : K.lookup f6 = some ⟨oc6, od6, .func (PySem.W.fnOf "check_tables" "check_tables" (defArgs s_check_tables) (defBody s_check_tables) (defScope s_check_tables) .none kV6 dc6 pm6 an6 cd6 ct6), sl6⟩)
    (e6 : PySem.W.codeIn K cd6 "check_tables" = true)
    (k6 : PySem.W.keepIn K (.ref f6) = true)
    (a7 : PySem.W.nsIn K mainGlobals "check_tables_that_are_read" = some (some (.ref f7)))
    (l7 : K.lookup f7 = some ⟨oc7, od7, .func (PySem.W.fnOf "check_tables_that_are_read" "check_tables_that_are_read" (defArgs s_check_tables_that_are_read) (defBody s_check_tables_that_are_read) (defScope s_check_tables_that_are_read) .none kV7 dc7 pm7 an7 cd7 ct7), sl7⟩)
    (e7 : PySem.W.codeIn K cd7 "check_tables_that_are_read" = true)
    (k7 : PySem.W.keepIn K (.ref f7) = true)
    (a8 : PySem.W.nsIn K mainGlobals "check_system" = some (some (.ref f8)))
    (l8 : K.lookup f8 = some ⟨oc8, od8, .func (PySem.W.fnOf "check_system" "check_system" (defArgs s_check_system) (defBody s_check_system) (defScope s_check_system) .none kV8 dc8 pm8 an8 cd8 ct8), sl8⟩)
    (e8 : PySem.W.codeIn K cd8 "check_system" = true)
    (k8 : PySem.W.keepIn K (.ref f8) = true)
    (a9 : PySem.W.nsIn K mainGlobals "reads_from" = some (some (.ref f9)))
    (l9 : K.lookup f9 = some ⟨oc9, od9, .func (PySem.W.fnOf "reads_from" "reads_from" (defArgs s_reads_from) (defBody s_reads_from) (defScope s_reads_from) .none kV9 dc9 pm9 an9 cd9 ct9), sl9⟩)
    (e9 : PySem.W.codeIn K cd9 "reads_from" = true)
    (k9 : PySem.W.keepIn K (.ref f9) = true)
    (a10 : PySem.W.nsIn K mainGlobals "is_cell" = some (some (.ref f10)))
    (l10 : K.lookup f10 = some ⟨oc10, od10, .func (PySem.W.fnOf "is_cell" "is_cell" (defArgs s_is_cell) (defBody s_is_cell) (defScope s_is_cell) .none kV10 dc10 pm10 an10 cd10 ct10), sl10⟩)
    (e10 : PySem.W.codeIn K cd10 "is_cell" = true)
    (k10 : PySem.W.keepIn K (.ref f10) = true)
    (a11 : PySem.W.nsIn K mainGlobals "is_way" = some (some (.ref f11)))
    (l11 : K.lookup f11 = some ⟨oc11, od11, .func (PySem.W.fnOf "is_way" "is_way" (defArgs s_is_way) (defBody s_is_way) (defScope s_is_way) .none kV11 dc11 pm11 an11 cd11 ct11), sl11⟩)
    (e11 : PySem.W.codeIn K cd11 "is_way" = true)
    (k11 : PySem.W.keepIn K (.ref f11) = true)
    (a12 : PySem.W.nsIn K mainGlobals "_law_rng" = some (some (.ref f12)))
    (l12 : K.lookup f12 = some ⟨oc12, od12, .func (PySem.W.fnOf "_law_rng" "_law_rng" (defArgs s_Lrng) (defBody s_Lrng) (defScope s_Lrng) .none kV12 dc12 pm12 an12 cd12 ct12), sl12⟩)
    (e12 : PySem.W.codeIn K cd12 "_law_rng" = true)
    (k12 : PySem.W.keepIn K (.ref f12) = true)
    (a13 : PySem.W.nsIn K mainGlobals "_law_draw" = some (some (.ref f13)))
    (l13 : K.lookup f13 = some ⟨oc13, od13, .func (PySem.W.fnOf "_law_draw" "_law_draw" (defArgs s_Ldraw) (defBody s_Ldraw) (defScope s_Ldraw) .none kV13 dc13 pm13 an13 cd13 ct13), sl13⟩)
    (e13 : PySem.W.codeIn K cd13 "_law_draw" = true)
    (k13 : PySem.W.keepIn K (.ref f13) = true)
    (a14 : PySem.W.nsIn K mainGlobals "_law_mixed" = some (some (.ref f14)))
    (l14 : K.lookup f14 = some ⟨oc14, od14, .func (PySem.W.fnOf "_law_mixed" "_law_mixed" (defArgs s_Lmixed) (defBody s_Lmixed) (defScope s_Lmixed) .none kV14 dc14 pm14 an14 cd14 ct14), sl14⟩)
    (e14 : PySem.W.codeIn K cd14 "_law_mixed" = true)
    (k14 : PySem.W.keepIn K (.ref f14) = true)
    (a15 : PySem.W.nsIn K mainGlobals "_law_vector" = some (some (.ref f15)))
    (l15 : K.lookup f15 = some ⟨oc15, od15, .func (PySem.W.fnOf "_law_vector" "_law_vector" (defArgs s_Lvector) (defBody s_Lvector) (defScope s_Lvector) .none kV15 dc15 pm15 an15 cd15 ct15), sl15⟩)
    (e15 : PySem.W.codeIn K cd15 "_law_vector" = true)
    (k15 : PySem.W.keepIn K (.ref f15) = true)
    (a16 : PySem.W.nsIn K mainGlobals "_law_made_rows" = some (some (.ref f16)))
    (l16 : K.lookup f16 = some ⟨oc16, od16, .func (PySem.W.fnOf "_law_made_rows" "_law_made_rows" (defArgs s_Lmade_rows) (defBody s_Lmade_rows) (defScope s_Lmade_rows) .none kV16 dc16 pm16 an16 cd16 ct16), sl16⟩)
    (e16 : PySem.W.codeIn K cd16 "_law_made_rows" = true)
    (k16 : PySem.W.keepIn K (.ref f16) = true)
    (a17 : PySem.W.nsIn K mainGlobals "_law_from" = some (some (.ref f17)))
    (l17 : K.lookup f17 = some ⟨oc17, od17, .func (PySem.W.fnOf "_law_from" "_law_from" (defArgs s_Lfrom) (defBody s_Lfrom) (defScope s_Lfrom) .none kV17 dc17 pm17 an17 cd17 ct17), sl17⟩)
    (e17 : PySem.W.codeIn K cd17 "_law_from" = true)
    (k17 : PySem.W.keepIn K (.ref f17) = true)
    (a18 : PySem.W.nsIn K mainGlobals "_law_is_way" = some (some (.ref f18)))
    (l18 : K.lookup f18 = some ⟨oc18, od18, .func (PySem.W.fnOf "_law_is_way" "_law_is_way" (defArgs s_Lis_way) (defBody s_Lis_way) (defScope s_Lis_way) .none kV18 dc18 pm18 an18 cd18 ct18), sl18⟩)
    (e18 : PySem.W.codeIn K cd18 "_law_is_way" = true)
    (k18 : PySem.W.keepIn K (.ref f18) = true)
    (a19 : PySem.W.nsIn K mainGlobals "_law_bent" = some (some (.ref f19)))
    (l19 : K.lookup f19 = some ⟨oc19, od19, .func (PySem.W.fnOf "_law_bent" "_law_bent" (defArgs s_Lbent) (defBody s_Lbent) (defScope s_Lbent) .none kV19 dc19 pm19 an19 cd19 ct19), sl19⟩)
    (e19 : PySem.W.codeIn K cd19 "_law_bent" = true)
    (k19 : PySem.W.keepIn K (.ref f19) = true)
    (a20 : PySem.W.nsIn K mainGlobals "step_back" = some (some (.ref f20)))
    (l20 : K.lookup f20 = some ⟨oc20, od20, .func (PySem.W.fnOf "step_back" "step_back" (defArgs s_step_back) (defBody s_step_back) (defScope s_step_back) .none kV20 dc20 pm20 an20 cd20 ct20), sl20⟩)
    (e20 : PySem.W.codeIn K cd20 "step_back" = true)
    (k20 : PySem.W.keepIn K (.ref f20) = true)
    (a21 : PySem.W.nsIn K mainGlobals "cells_read" = some (some (.ref f21)))
    (l21 : K.lookup f21 = some ⟨oc21, od21, .func (PySem.W.fnOf "cells_read" "cells_read" (defArgs s_cells_read) (defBody s_cells_read) (defScope s_cells_read) .none kV21 dc21 pm21 an21 cd21 ct21), sl21⟩)
    (e21 : PySem.W.codeIn K cd21 "cells_read" = true)
    (k21 : PySem.W.keepIn K (.ref f21) = true)
    (a22 : PySem.W.nsIn K mainGlobals "law" = some (some (.ref f22)))
    (l22 : K.lookup f22 = some ⟨oc22, od22, .func (PySem.W.fnOf "law" "law" (defArgs s_law) (defBody s_law) (defScope s_law) .none kV22 dc22 pm22 an22 cd22 ct22), sl22⟩)
    (e22 : PySem.W.codeIn K cd22 "law" = true)
    (k22 : PySem.W.keepIn K (.ref f22) = true)
    (aC : PySem.W.nsIn K mainGlobals "System" = some (some (.ref C)))
    (atD : PySem.W.findIn K (.ref C) "dimensions" = some (some (.ref pD)))
    (geD : PySem.W.specialIn K (.ref pD) "__get__" = some (some (.builtin "property.__get__")))
    (taD : PySem.W.takesIn K (.ref pD) = some true)
    (reD : PySem.W.recIn K pD "property" = some (.ref gD :: restD))
    (lD : K.lookup gD = some ⟨ocD, odD, .func (PySem.W.fnOf "dimensions" "System.dimensions" (defArgs s_System_dimensions) (defBody s_System_dimensions) (defScope s_System_dimensions) .none kVD dcD pmD anD cdD ctD), slD⟩)
    (eD : PySem.W.codeIn K cdD "System.dimensions" = true)
    (kD : PySem.W.keepIn K (.ref gD) = true)
    (atN : PySem.W.findIn K (.ref C) "names" = some (some (.ref pN)))
    (geN : PySem.W.specialIn K (.ref pN) "__get__" = some (some (.builtin "property.__get__")))
    (taN : PySem.W.takesIn K (.ref pN) = some true)
    (reN : PySem.W.recIn K pN "property" = some (.ref gN :: restN))
    (lN : K.lookup gN = some ⟨ocN, odN, .func (PySem.W.fnOf "names" "System.names" (defArgs s_System_names) (defBody s_System_names) (defScope s_System_names) .none kVN dcN pmN anN cdN ctN), slN⟩)
    (eN : PySem.W.codeIn K cdN "System.names" = true)
    (kN : PySem.W.keepIn K (.ref gN) = true)
    (atR : PySem.W.findIn K (.ref C) "reads" = some (some (.ref fR)))
    (isR : PySem.W.isFn K (.ref fR) = true)
    (lR : K.lookup fR = some ⟨ocR, odR, .func (PySem.W.fnOf "reads" "System.reads" (defArgs s_System_reads) (defBody s_System_reads) (defScope s_System_reads) .none kVR dcR pmR anR cdR ctR), slR⟩)
    (eR : PySem.W.codeIn K cdR "System.reads" = true)
    (kR : PySem.W.keepIn K (.ref fR) = true)
    (atI : PySem.W.findIn K (.ref C) "__init__" = some (some (.ref fI)))
    (isI : PySem.W.isFn K (.ref fI) = true)
    (lI : K.lookup fI = some ⟨ocI, odI, .func (PySem.W.fnOf "__init__" "System.__init__" (defArgs s_System_init) (defBody s_System_init) (defScope s_System_init) (.ref T0) kVI dcI pmI anI (.ref c0) ctI), slI⟩)
    (eI : PySem.W.codeIn K (.ref c0) "System.__init__" = true)
    (kI : PySem.W.keepIn K (.ref fI) = true)
    (lT : K.lookup T0 = some ⟨ocT, odT, .seq [Value.int 1000003 tT].toArray nT, slT⟩)
    (pg : PySem.W.plainGet K C Str.empty = true)
    (hd : PySem.W.hasDictIn K C = true)
    (po : PySem.W.plainOver K C = true)
    (sa : PySem.W.findIn K (.ref C) "__setattr__" = some (some (.builtin "object.__setattr__")))
    (mk : PySem.W.makesIn K C = true)
    (kc : PySem.W.keepIn K (.ref C) = true)
    (n_dimensions : PySem.W.findIn K (.ref C) "_dimensions" = some none)
    (n_modulus : PySem.W.findIn K (.ref C) "_modulus" = some none)
    (n_tables : PySem.W.findIn K (.ref C) "_tables" = some none)
    (z_len : PySem.W.nsIn K mainGlobals "len" = some none)
    (z_all : PySem.W.nsIn K mainGlobals "all" = some none)
    (z_min : PySem.W.nsIn K mainGlobals "min" = some none)
    (z_abs : PySem.W.nsIn K mainGlobals "abs" = some none)
    (z_int : PySem.W.nsIn K mainGlobals "int" = some none)
    (z_list : PySem.W.nsIn K mainGlobals "list" = some none)
    (z_tuple : PySem.W.nsIn K mainGlobals "tuple" = some none)
    (z_range : PySem.W.nsIn K mainGlobals "range" = some none)
    (z_zip : PySem.W.nsIn K mainGlobals "zip" = some none)
    (z_enumerate : PySem.W.nsIn K mainGlobals "enumerate" = some none)
    (z_sorted : PySem.W.nsIn K mainGlobals "sorted" = some none)
    (z_repr : PySem.W.nsIn K mainGlobals "repr" = some none)
    (v_MOST_DIMENSIONS : PySem.W.nsIn K mainGlobals "MOST_DIMENSIONS" = some (some (.int 3 t_MOST_DIMENSIONS)))
    (v_MOST_TABLES : PySem.W.nsIn K mainGlobals "MOST_TABLES" = some (some (.int 6 t_MOST_TABLES)))
    (v_MOST_READS : PySem.W.nsIn K mainGlobals "MOST_READS" = some (some (.int 12 t_MOST_READS)))
    (v_MOST_LETTERS : PySem.W.nsIn K mainGlobals "MOST_LETTERS" = some (some (.int 8 t_MOST_LETTERS)))
    (hPt : h.get? Pt = some { cls := .none, data := .fields #[] })
    (nPt : K.lookup Pt = none)
    (hc0 : PySem.W.codeHdIn K c0 Pt = true)
    : LawAtG l w K 8 63 "_law_script" mg fa h := by
  have e := hfa.symm.trans (PySem.W.mg_of X G a22)
  cases e
  have T : Txt mg := ⟨PySem.W.mg_none_of X G z_len, PySem.W.mg_none_of X G z_all, PySem.W.mg_none_of X G z_min, PySem.W.mg_none_of X G z_abs, PySem.W.mg_none_of X G z_int, PySem.W.mg_none_of X G z_list, PySem.W.mg_none_of X G z_tuple, PySem.W.mg_none_of X G z_range, PySem.W.mg_none_of X G z_zip, PySem.W.mg_none_of X G z_enumerate, PySem.W.mg_none_of X G z_sorted, ⟨_, PySem.W.mg_of X G v_MOST_DIMENSIONS, ⟨_, rfl⟩⟩, ⟨_, PySem.W.mg_of X G v_MOST_TABLES, ⟨_, rfl⟩⟩, ⟨_, PySem.W.mg_of X G v_MOST_READS, ⟨_, rfl⟩⟩, ⟨_, PySem.W.mg_of X G v_MOST_LETTERS, ⟨_, rfl⟩⟩⟩
  have cl : Cls K C := ⟨pg, hd, po, sa⟩
  have TC : TxtC K mg C := ⟨cl, n_dimensions, n_modulus, n_tables, PySem.W.mg_of X G aC⟩
  have F1 := fun_mk (st := s_is_name) l1 e1 k1
  have b1 := F1.binds (ps := ["text"]) fun _ _ _ _ _ _ us hl => match us, hl with | [_], _ => rfl
  have F2 := fun_mk (st := s_is_read) l2 e2 k2
  have b2 := F2.binds (ps := ["read", "dimensions"]) fun _ _ _ _ _ _ us hl => match us, hl with | [_, _], _ => rfl
  have F3 := fun_mk (st := s_is_point) l3 e3 k3
  have b3 := F3.binds (ps := ["system", "point"]) fun _ _ _ _ _ _ us hl => match us, hl with | [_, _], _ => rfl
  have F4 := fun_mk (st := s_check_table) l4 e4 k4
  have b4 := F4.binds (ps := ["system", "name"]) fun _ _ _ _ _ _ us hl => match us, hl with | [_, _], _ => rfl
  have F5 := fun_mk (st := s_check_cell) l5 e5 k5
  have b5 := F5.binds (ps := ["system", "cell"]) fun _ _ _ _ _ _ us hl => match us, hl with | [_, _], _ => rfl
  have F6 := fun_mk (st := s_check_tables) l6 e6 k6
  have b6 := F6.binds (ps := ["dimensions", "tables"]) fun _ _ _ _ _ _ us hl => match us, hl with | [_, _], _ => rfl
  have F7 := fun_mk (st := s_check_tables_that_are_read) l7 e7 k7
  have b7 := F7.binds (ps := ["tables"]) fun _ _ _ _ _ _ us hl => match us, hl with | [_], _ => rfl
  have F8 := fun_mk (st := s_check_system) l8 e8 k8
  have b8 := F8.binds (ps := ["dimensions", "tables", "modulus"]) fun _ _ _ _ _ _ us hl => match us, hl with | [_, _, _], _ => rfl
  have F9 := fun_mk (st := s_reads_from) l9 e9 k9
  have b9 := F9.binds (ps := ["system", "cell"]) fun _ _ _ _ _ _ us hl => match us, hl with | [_, _], _ => rfl
  have F10 := fun_mk (st := s_is_cell) l10 e10 k10
  have b10 := F10.binds (ps := ["system", "cell"]) fun _ _ _ _ _ _ us hl => match us, hl with | [_, _], _ => rfl
  have F11 := fun_mk (st := s_is_way) l11 e11 k11
  have b11 := F11.binds (ps := ["system", "cells"]) fun _ _ _ _ _ _ us hl => match us, hl with | [_, _], _ => rfl
  have F12 := fun_mk (st := s_Lrng) l12 e12 k12
  have b12 := F12.binds (ps := ["_law_script"]) fun _ _ _ _ _ _ us hl => match us, hl with | [_], _ => rfl
  have F13 := fun_mk (st := s_Ldraw) l13 e13 k13
  have b13 := F13.binds (ps := ["_law_rng_here", "_law_limit"]) fun _ _ _ _ _ _ us hl => match us, hl with | [_, _], _ => rfl
  have F14 := fun_mk (st := s_Lmixed) l14 e14 k14
  have b14 := F14.binds (ps := ["_law_rng_here", "_law_some"]) fun _ _ _ _ _ _ us hl => match us, hl with | [_, _], _ => rfl
  have F15 := fun_mk (st := s_Lvector) l15 e15 k15
  have b15 := F15.binds (ps := ["_law_rng_here", "_law_dims", "_law_wide"]) fun _ _ _ _ _ _ us hl => match us, hl with | [_, _, _], _ => rfl
  have F16 := fun_mk (st := s_Lmade_rows) l16 e16 k16
  have b16 := F16.binds (ps := ["_law_rng_here", "_law_dims", "_law_many", "_law_most", "_law_wide"]) fun _ _ _ _ _ _ us hl => match us, hl with | [_, _, _, _, _], _ => rfl
  have F17 := fun_mk (st := s_Lfrom) l17 e17 k17
  have b17 := F17.binds (ps := ["_law_rows", "_law_here"]) fun _ _ _ _ _ _ us hl => match us, hl with | [_, _], _ => rfl
  have F18 := fun_mk (st := s_Lis_way) l18 e18 k18
  have b18 := F18.binds (ps := ["_law_dims", "_law_rows", "_law_way"]) fun _ _ _ _ _ _ us hl => match us, hl with | [_, _, _], _ => rfl
  have F19 := fun_mk (st := s_Lbent) l19 e19 k19
  have b19 := F19.binds (ps := ["_law_rng_here", "_law_way"]) fun _ _ _ _ _ _ us hl => match us, hl with | [_, _], _ => rfl
  have F20 := fun_mk (st := s_step_back) l20 e20 k20
  have b20 := F20.binds (ps := ["point", "vector"]) fun _ _ _ _ _ _ us hl => match us, hl with | [_, _], _ => rfl
  have F21 := fun_mk (st := s_cells_read) l21 e21 k21
  have b21 := F21.binds (ps := ["reads", "point"]) fun _ _ _ _ _ _ us hl => match us, hl with | [_, _], _ => rfl
  have F22 := fun_mk (st := s_law) l22 e22 k22
  have FD := fun_mk (st := s_System_dimensions) lD eD kD
  have bD := FD.binds (ps := ["self"]) fun _ _ _ _ _ _ us hl => match us, hl with | [_], _ => rfl
  have FN := fun_mk (st := s_System_names) lN eN kN
  have bN := FN.binds (ps := ["self"]) fun _ _ _ _ _ _ us hl => match us, hl with | [_], _ => rfl
  have FR := fun_mk (st := s_System_reads) lR eR kR
  have bR := FR.binds (ps := ["self", "name"]) fun _ _ _ _ _ _ us hl => match us, hl with | [_, _], _ => rfl
  have FI : FunC K "__init__" "System.__init__" s_System_init fI _ c0 := ⟨_, _, _, _, _, _, _, _, _, rfl, lI, eI⟩
  have FID : FunD K "__init__" "System.__init__" (defArgs s_System_init) (defBody s_System_init) (defScope s_System_init) [.int 1000003] [] fI _ := ⟨⟨_, _, _, _, _, _, _, _, _, _, rfl, lI, eI, .inr ⟨by simp, T0, _, _, _, rfl, lT, rfl, .cons ⟨_, rfl⟩ .nil⟩, .inl rfl⟩, kI⟩
  obtain ⟨ds, hds, bI⟩ := FID.binds1 (ps := ["self", "dimensions", "tables", "modulus"]) 3 0 (by simp) rfl fun _ _ _ _ _ _ _ us its h1 h2 => match us, its, h1, h2 with | [_, _, _], [_], _, _ => ⟨_, rfl, rfl⟩
  have hK : KBinds K _ ["system", "cells"] ["cells", "system"] kw2 kw2 := ⟨fun s us ws hin hlen => (match us, ws, hlen with
    | [], [c, s], _ => .of_eq (fd := PySem.W.fnOf "is_way" "is_way" (defArgs s_is_way) (defBody s_is_way) (defScope s_is_way) .none kV11 dc11 pm11 an11 cd11 ct11) (by rfl)
    | [], [], h => absurd h (by simp [kw2])
    | [], [_], h => absurd h (by simp [kw2])
    | [], _ :: _ :: _ :: _, h => absurd h (by simp [kw2])
    | _ :: _, _, h => absurd h (by simp [kw2])), fun {vs us zs ws} hv hz => by
    cases hv with
    | nil =>
      cases hz with
      | nil => exact .nil
      | cons h1 h2 =>
        cases h2 with
        | nil => exact .nil
        | cons h3 h4 =>
          cases h4 with
          | nil => exact .cons h3 (.cons h1 .nil)
          | cons _ _ => exact .nil
    | cons _ _ => exact .nil⟩
  refine ⟨PySem.W.fnOf "law" "law" (defArgs s_law) (defBody s_law) (defScope s_law) .none kV22 dc22 pm22 an22 cd22 ct22, [(c0, Pt)], spLaw7 K [(Pt, "System.__init__.<locals>.<lambda>")], ⟨?_, ?_, ?_⟩, fun s v => .of_eq rfl, ?_, fun base KB GB TB => ?_⟩
  · intro p hp
    rw [List.mem_singleton.mp hp]
    exact hPt
  · intro p hp
    rw [List.mem_singleton.mp hp]
    exact nPt
  · intro p hp
    rw [List.mem_singleton.mp hp]
    exact PySem.W.codeHd_of_K X hc0
  · intro H a ns hl hT hS
    refine ⟨a, ns, rfl, hS, hl, fun p hp => ?_, fun _ => rfl⟩
    rw [List.mem_singleton.mp hp]
    exact LamX.TabS.nil (hT _ (List.mem_singleton.mpr rfl))
  have TBc := TB _ (List.mem_singleton.mpr rfl)
  have c_is_name : C8.Cal l.prog w K mg base 1 "is_name" spIsName [] := ⟨_, _, _, _, ok_is_name F1 T, PySem.W.mg_of X G a1, k1, b1, .nil⟩
  have c_is_read : C8.Cal l.prog w K mg base 2 "is_read" (spIsRead K) [] := ⟨_, _, _, _, ok_is_read F2 T c_is_name, PySem.W.mg_of X G a2, k2, b2, .nil⟩
  have p_dimensions : Prp l.prog w K mg base 1 C "dimensions" (spDims K C) := ⟨_, _, _, _, cl, ⟨atD, geD, taD, _, reD⟩, ok_dims FD TC, bD⟩
  have p_names : Prp l.prog w K mg base 1 C "names" (spNames K C) := ⟨_, _, _, _, cl, ⟨atN, geN, taN, _, reN⟩, ok_names FN T TC, bN⟩
  have c_is_point : C8.Cal l.prog w K mg base 3 "is_point" (spIsPoint K C) [] := ⟨_, _, _, _, ok_is_point F3 T p_dimensions, PySem.W.mg_of X G a3, k3, b3, .nil⟩
  have c_check_table : C8.Cal l.prog w K mg base 3 "check_table" (spCheckTable K C) [] := ⟨_, _, _, _, ok_check_table F4 T p_names, PySem.W.mg_of X G a4, k4, b4, .nil⟩
  have c_check_cell : C8.Cal l.prog w K mg base 4 "check_cell" (spCheckCell K C) [] := ⟨_, _, _, _, ok_check_cell F5 T c_check_table c_is_point, PySem.W.mg_of X G a5, k5, b5, .nil⟩
  have t_reads : C8.Met l.prog w K mg base 4 C "reads" (spReads K C) [] := ⟨_, _, _, _, cl, ⟨atR, isR, kR⟩, ok_reads FR T TC c_check_table, bR, .nil⟩
  have c_check_tables : C8.Cal l.prog w K mg base 3 "check_tables" (spCheckTables K) [] := ⟨_, _, _, _, ok_check_tables F6 T c_is_name c_is_read, PySem.W.mg_of X G a6, k6, b6, .nil⟩
  have c_check_tables_that_are_read : C8.Cal l.prog w K mg base 3 "check_tables_that_are_read" (spCheckRead K) [] := ⟨_, _, _, _, ok_check_read F7 T, PySem.W.mg_of X G a7, k7, b7, .nil⟩
  have c_check_system : C8.Cal l.prog w K mg base 4 "check_system" (spCheckSystem K) [] := ⟨_, _, _, _, ok_check_system F8 T c_check_tables c_check_tables_that_are_read, PySem.W.mg_of X G a8, k8, b8, .nil⟩
  have m_System : C8.Mak l.prog w K mg base 5 "System" C (spInit K C [(Pt, "System.__init__.<locals>.<lambda>")]) [.int 1000003] := ⟨_, _, _, _, ⟨mk, atI, isI, kc⟩, ok_init FI T TC c_check_system TBc (List.mem_singleton.mpr rfl) (fun p hp _ => by rw [List.mem_singleton.mp hp]), PySem.W.mg_of X G aC, bI, hds⟩
  have c_step_back : C8.Cal l.prog w K mg base 1 "step_back" (spBack K) [] := ⟨_, _, _, _, ok_back F20 T, PySem.W.mg_of X G a20, k20, b20, .nil⟩
  have c_cells_read : C8.Cal l.prog w K mg base 2 "cells_read" (spCRead K) [] := ⟨_, _, _, _, ok_cread F21 T c_step_back, PySem.W.mg_of X G a21, k21, b21, .nil⟩
  have c_reads_from : C8.Cal l.prog w K mg base 5 "reads_from" (spFrom K C) [] := ⟨_, _, _, _, ok_reads_from F9 T TC c_check_cell t_reads c_cells_read, PySem.W.mg_of X G a9, k9, b9, .nil⟩
  have c_is_cell : C8.Cal l.prog w K mg base 4 "is_cell" (spIsCell K C) [] := ⟨_, _, _, _, ok_is_cell F10 T p_names c_is_point, PySem.W.mg_of X G a10, k10, b10, .nil⟩
  have c_is_way : C8.Cal l.prog w K mg base 6 "is_way" (spIsWay K C) [] := ⟨_, _, _, _, ok_is_way F11 T c_is_cell c_reads_from, PySem.W.mg_of X G a11, k11, b11, .nil⟩
  have k_is_way : CalK l.prog w K mg base 6 "is_way" (spIsWay K C) ["cells", "system"] kw2 := ⟨_, _, _, _, ok_is_way F11 T c_is_cell c_reads_from, PySem.W.mg_of X G a11, k11, hK⟩
  have c_Lrng : C8.Cal l.prog w K mg base 1 "_law_rng" (spRng K) [] := ⟨_, _, _, _, ok_rng F12 T, PySem.W.mg_of X G a12, k12, b12, .nil⟩
  have c_Ldraw : C8.Cal l.prog w K mg base 1 "_law_draw" spDraw [] := ⟨_, _, _, _, ok_draw F13 T, PySem.W.mg_of X G a13, k13, b13, .nil⟩
  have c_Lmixed : C8.Cal l.prog w K mg base 2 "_law_mixed" (spMixed K) [] := ⟨_, _, _, _, ok_mixed F14 T c_Ldraw, PySem.W.mg_of X G a14, k14, b14, .nil⟩
  have c_Lvector : C8.Cal l.prog w K mg base 2 "_law_vector" (spVector K) [] := ⟨_, _, _, _, ok_vector F15 T c_Ldraw, PySem.W.mg_of X G a15, k15, b15, .nil⟩
  have c_Lmade_rows : C8.Cal l.prog w K mg base 3 "_law_made_rows" (spRows K) [] := ⟨_, _, _, _, ok_made_rows F16 T c_Ldraw c_Lmixed c_Lvector, PySem.W.mg_of X G a16, k16, b16, .nil⟩
  have c_Lfrom : C8.Cal l.prog w K mg base 1 "_law_from" (spLfrom K) [] := ⟨_, _, _, _, ok_from F17 T, PySem.W.mg_of X G a17, k17, b17, .nil⟩
  have c_Lis_way : C8.Cal l.prog w K mg base 2 "_law_is_way" (spLway K) [] := ⟨_, _, _, _, ok_lway F18 T c_Lfrom, PySem.W.mg_of X G a18, k18, b18, .nil⟩
  have c_Lbent : C8.Cal l.prog w K mg base 2 "_law_bent" (spLbent K) [] := ⟨_, _, _, _, ok_bent F19 T c_Ldraw, PySem.W.mg_of X G a19, k19, b19, .nil⟩
  exact ok_law7 F22 T (PySem.W.mg_none_of X G z_repr) TC c_Lrng c_Ldraw c_Lmade_rows m_System p_names c_Lfrom c_Lbent c_Lis_way c_is_way k_is_way
end Fr

open PySem PySem.W PyProof.Rows
set_option maxRecDepth 100000 in
set_option maxHeartbeats 0 in
theorem PySem.Challenge.cw_farreads_k07_ways_looked_at_holds : PySem.Challenge.rw_farreads_k07_ways_looked_at.Holds := by
  w_on; o_law; k_head; (case hw => w_witness2)
  k_fill
  refine Fr.walk_ofG (n := 63) (k := 8) (x := "_law_script") (l := PySem.Challenge.rw_farreads_k07_ways_looked_at) rfl (by decide) rfl ⟨rfl, by decide, by decide⟩ (fun w h Y => PySem.W.km_in_of Y) ?F
  case F =>
    intro w mg fa h Y KX G hmg
    have hPt := PySem.W.km_tabs_of Y _ (List.mem_singleton.mpr rfl)
    refine' Fr.all_mk (Pt := _) KX G hmg ?a1 ?l1 ?e1 ?k1 ?a2 ?l2 ?e2 ?k2 ?a3 ?l3 ?e3 ?k3 ?a4 ?l4 ?e4 ?k4 ?a5 ?l5 ?e5 ?k5 ?a6 ?l6 ?e6 ?k6 ?a7 ?l7 ?e7 ?k7 ?a8 ?l8 ?e8 ?k8 ?a9 ?l9 ?e9 ?k9 ?a10 ?l10 ?e10 ?k10 ?a11 ?l11 ?e11 ?k11 ?a12 ?l12 ?e12 ?k12 ?a13 ?l13 ?e13 ?k13 ?a14 ?l14 ?e14 ?k14 ?a15 ?l15 ?e15 ?k15 ?a16 ?l16 ?e16 ?k16 ?a17 ?l17 ?e17 ?k17 ?a18 ?l18 ?e18 ?k18 ?a19 ?l19 ?e19 ?k19 ?a20 ?l20 ?e20 ?k20 ?a21 ?l21 ?e21 ?k21 ?a22 ?l22 ?e22 ?k22 ?aC ?atD ?geD ?taD ?reD ?lD ?eD ?kD ?atN ?geN ?taN ?reN ?lN ?eN ?kN ?atR ?isR ?lR ?eR ?kR ?atI ?isI ?lI ?eI ?kI ?lT ?pg ?hd ?po ?sa ?mk ?kc ?n_dimensions ?n_modulus ?n_tables ?z_len ?z_all ?z_min ?z_abs ?z_int ?z_list ?z_tuple ?z_range ?z_zip ?z_enumerate ?z_sorted ?z_repr ?v_MOST_DIMENSIONS ?v_MOST_TABLES ?v_MOST_READS ?v_MOST_LETTERS hPt ?nPt ?hc0
    (case a1 => k_is)
    (case l1 => k_is)
    (case e1 => k_is)
    (case k1 => k_is)
    (case a2 => k_is)
    (case l2 => k_is)
    (case e2 => k_is)
    (case k2 => k_is)
    (case a3 => k_is)
    (case l3 => k_is)
    (case e3 => k_is)
    (case k3 => k_is)
    (case a4 => k_is)
    (case l4 => k_is)
    (case e4 => k_is)
    (case k4 => k_is)
    (case a5 => k_is)
    (case l5 => k_is)
    (case e5 => k_is)
    (case k5 => k_is)
    (case a6 => k_is)
    (case l6 => k_is)
    (case e6 => k_is)
    (case k6 => k_is)
    (case a7 => k_is)
    (case l7 => k_is)
    (case e7 => k_is)
    (case k7 => k_is)
    (case a8 => k_is)
    (case l8 => k_is)
    (case e8 => k_is)
    (case k8 => k_is)
    (case a9 => k_is)
    (case l9 => k_is)
    (case e9 => k_is)
    (case k9 => k_is)
    (case a10 => k_is)
    (case l10 => k_is)
    (case e10 => k_is)
    (case k10 => k_is)
    (case a11 => k_is)
    (case l11 => k_is)
    (case e11 => k_is)
    (case k11 => k_is)
    (case a12 => k_is)
    (case l12 => k_is)
    (case e12 => k_is)
    (case k12 => k_is)
    (case a13 => k_is)
    (case l13 => k_is)
    (case e13 => k_is)
    (case k13 => k_is)
    (case a14 => k_is)
    (case l14 => k_is)
    (case e14 => k_is)
    (case k14 => k_is)
    (case a15 => k_is)
    (case l15 => k_is)
    (case e15 => k_is)
    (case k15 => k_is)
    (case a16 => k_is)
    (case l16 => k_is)
    (case e16 => k_is)
    (case k16 => k_is)
    (case a17 => k_is)
    (case l17 => k_is)
    (case e17 => k_is)
    (case k17 => k_is)
    (case a18 => k_is)
    (case l18 => k_is)
    (case e18 => k_is)
    (case k18 => k_is)
    (case a19 => k_is)
    (case l19 => k_is)
    (case e19 => k_is)
    (case k19 => k_is)
    (case a20 => k_is)
    (case l20 => k_is)
    (case e20 => k_is)
    (case k20 => k_is)
    (case a21 => k_is)
    (case l21 => k_is)
    (case e21 => k_is)
    (case k21 => k_is)
    (case a22 => k_is)
    (case l22 => k_is)
    (case e22 => k_is)
    (case k22 => k_is)
    (case aC => k_is)
    (case atD => k_is)
    (case geD => k_is)
    (case taD => k_is)
    (case reD => k_is)
    (case lD => k_is)
    (case eD => k_is)
    (case kD => k_is)
    (case atN => k_is)
    (case geN => k_is)
    (case taN => k_is)
    (case reN => k_is)
    (case lN => k_is)
    (case eN => k_is)
    (case kN => k_is)
    (case atR => k_is)
    (case isR => k_is)
    (case lR => k_is)
    (case eR => k_is)
    (case kR => k_is)
    (case atI => k_is)
    (case isI => k_is)
    (case lI => k_is)
    (case eI => k_is)
    (case kI => k_is)
    (case lT => k_is)
    (case pg => k_is)
    (case hd => k_is)
    (case po => k_is)
    (case sa => k_is)
    (case mk => k_is)
    (case kc => k_is)
    (case n_dimensions => k_is)
    (case n_modulus => k_is)
    (case n_tables => k_is)
    (case z_len => k_is)
    (case z_all => k_is)
    (case z_min => k_is)
    (case z_abs => k_is)
    (case z_int => k_is)
    (case z_list => k_is)
    (case z_tuple => k_is)
    (case z_range => k_is)
    (case z_zip => k_is)
    (case z_enumerate => k_is)
    (case z_sorted => k_is)
    (case z_repr => k_is)
    (case v_MOST_DIMENSIONS => k_is)
    (case v_MOST_TABLES => k_is)
    (case v_MOST_READS => k_is)
    (case v_MOST_LETTERS => k_is)
    (case nPt => kernel_rfl)
    (case hc0 => kernel_rfl)
