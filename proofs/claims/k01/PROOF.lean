import PyProof.Rows.All
import Wide.All
import OpenK.AllK
import Wide.FinOn
import PyProof.ReprRoads
import HandS.Base
import HandS.Call
import HandS.List
import HandS.Ends
import HandS.EndBits
import HandS.Dict
import HandS.Words
import HandS.WordsList
import HandS.IsInst
import HandS.Wide
import HandS.ForMost
import PyProof.StrLawsRepr
import PySem.Challenge.RW_solvedbothsides_k01_formulas_judged
set_option Elab.async false
set_option maxRecDepth 100000
set_option linter.unusedVariables false
/-! VKit: data over the abstract heap with dicts, repr of such data, defs that know that no repr runs around them -/
namespace VK
open PySem PySem.Spec PyProof.Rows L2

/-! ### data -/
def keyD : Key → PyData
  | .inl i => .int i
  | .inr x => .str x
mutual
inductive Da (H : Hp) : V → PyData → Prop
  | non : Da H .non .none
  | bl (b : Bool) : Da H (.bl b) (.bool b)
  | int (i : Int) : Da H (.int i) (.int i)
  | str (x : Str) : Da H (.str x) (.str x)
  | lst {a : Addr} {xs : List V} {ds : List PyData} : H a = some (.lst xs) → DaAll H xs ds → Da H (.ref a) (.list ds)
  | tup {a : Addr} {xs : List V} {ds : List PyData} : H a = some (.tup xs) → DaAll H xs ds → Da H (.ref a) (.tuple ds)
  | dic {a : Addr} {kvs : List (Key × V)} {ds : List PyData} : H a = some (.dK kvs) → DaAll H (kvs.map (·.2)) ds → Da H (.ref a) (.dict ((kvs.map (fun p => keyD p.1)).zip ds))
inductive DaAll (H : Hp) : List V → List PyData → Prop
  | nil : DaAll H [] []
  | cons {v : V} {vs : List V} {d : PyData} {ds : List PyData} : Da H v d → DaAll H vs ds → DaAll H (v :: vs) (d :: ds)
end
mutual
theorem Da.same {H H' : Hp} (e : Same H H') : ∀ {v : V} {d : PyData}, Da H v d → Da H' v d
  | _, _, .non => .non
  | _, _, .bl b => .bl b
  | _, _, .int i => .int i
  | _, _, .str x => .str x
  | _, _, .lst h r => .lst (e _ _ h) (DaAll.same e r)
  | _, _, .tup h r => .tup (e _ _ h) (DaAll.same e r)
  | _, _, .dic h r => .dic (e _ _ h) (DaAll.same e r)
theorem DaAll.same {H H' : Hp} (e : Same H H') : ∀ {vs : List V} {ds : List PyData}, DaAll H vs ds → DaAll H' vs ds
  | _, _, .nil => .nil
  | _, _, .cons h r => .cons (Da.same e h) (DaAll.same e r)
end
theorem DaAll.length {H : Hp} : ∀ {vs : List V} {ds : List PyData}, DaAll H vs ds → vs.length = ds.length
  | _, _, .nil => rfl
  | _, _, .cons _ r => congrArg (· + 1) r.length
theorem DaAll.append {H : Hp} : ∀ {vs ws : List V} {ds es : List PyData}, DaAll H vs ds → DaAll H ws es → DaAll H (vs ++ ws) (ds ++ es)
  | _, _, _, _, .nil, s => s
  | _, _, _, _, .cons h r, s => .cons h (r.append s)
theorem DaAll.get {H : Hp} : ∀ {vs : List V} {ds : List PyData} {i : Nat} {d : PyData}, DaAll H vs ds → ds[i]? = some d → ∃ v, vs[i]? = some v ∧ Da H v d
  | _, _, _, _, .nil, e => by simp at e
  | _, _, 0, _, .cons h _, e => ⟨_, rfl, by have e' := Option.some.inj e; rw [← e']; exact h⟩
  | _, _, i + 1, _, .cons _ r, e => DaAll.get (i := i) r e
theorem DaAll.getv {H : Hp} : ∀ {vs : List V} {ds : List PyData} {i : Nat} {v : V}, DaAll H vs ds → vs[i]? = some v → ∃ d, ds[i]? = some d ∧ Da H v d
  | _, _, _, _, .nil, e => by simp at e
  | _, _, 0, _, .cons h _, e => ⟨_, rfl, by have e' := Option.some.inj e; rw [← e']; exact h⟩
  | _, _, i + 1, _, .cons _ r, e => DaAll.getv (i := i) r e
/-! ### what is read of it in the machine's heap -/
theorem kv_vals {kvs : List (Key × V)} {vs : List (Key × Value)} (r : KV kvs vs) : Vals (kvs.map (·.2)) (vs.map (·.2)) ∧ kvs.map (·.1) = vs.map (·.1) := by
  induction r with
  | nil => exact ⟨.nil, rfl⟩
  | cons h _ ih => exact ⟨.cons h.2 ih.1, by rw [List.map_cons, List.map_cons, h.1, ih.2]⟩
end VK
namespace VK
open PySem PySem.Spec PyProof.Rows L2
section
variable {prog : Program} {w : World} {h : Heap}
theorem pairs_reads : ∀ {es : List DictEntry} {kvs : List (Key × Value)}, Pairs (mixKind prog w) es kvs → ReadsAll h (es.map (·.key)) (kvs.map fun p => keyD p.1) [] ∧ es.map (·.val) = kvs.map (·.2)
  | _, _, .nil => ⟨.nil, rfl⟩
  | _, _, .cons (kv := kv) hk hv r => by
    obtain ⟨r1, r2⟩ := pairs_reads r
    obtain ⟨k, v⟩ := kv
    refine ⟨?_, ?_⟩
    · rcases keyIs_shape hk with ⟨i, t, e1, e2⟩ | ⟨x, t, e1, e2⟩
      · have e1' : k = .inl i := e1
        subst e1'
        rw [List.map_cons, List.map_cons, e2]
        exact ReadsAll.cons (as := []) (.int i t) r1
      · have e1' : k = .inr x := e1
        subst e1'
        rw [List.map_cons, List.map_cons, e2]
        exact ReadsAll.cons (as := []) (.str x t) r1
    · rw [List.map_cons, List.map_cons, hv, r2]
end
theorem zip_fst {α β : Type} : ∀ {xs : List α} {ys : List β}, xs.length = ys.length → (xs.zip ys).map (·.1) = xs
  | [], [], _ => rfl
  | x :: xs, y :: ys, e => by
    show x :: (xs.zip ys).map (·.1) = x :: xs
    rw [zip_fst (Nat.succ.inj e)]
theorem zip_snd {α β : Type} : ∀ {xs : List α} {ys : List β}, xs.length = ys.length → (xs.zip ys).map (·.2) = ys
  | [], [], _ => rfl
  | x :: xs, y :: ys, e => by
    show y :: (xs.zip ys).map (·.2) = y :: ys
    rw [zip_snd (Nat.succ.inj e)]
section
variable {X : Cx} {pins : List (Addr × Obj)} {σ : L2.St} {H : Hp} {s : Shared}
mutual
theorem Da.reads (I : Inv X pins σ H s) : ∀ {v : V} {d : PyData} {u : Value}, Da H v d → RelV v u → ∃ as, Reads s.heap u d as ∧ ∀ a ∈ as, H a ≠ none
  | _, _, _, .non, r => by
    cases (show _ = Value.none from r)
    exact ⟨_, .none, fun _ z => nomatch z⟩
  | _, _, _, .bl b, r => by
    cases (show _ = Value.bool b from r)
    exact ⟨_, .bool b, fun _ z => nomatch z⟩
  | _, _, _, .int i, r => by
    obtain ⟨t, rfl⟩ := r
    exact ⟨_, .int i t, fun _ z => nomatch z⟩
  | _, _, _, .str x, r => by
    obtain ⟨t, rfl⟩ := r
    exact ⟨_, .str x t, fun _ z => nomatch z⟩
  | _, _, _, .lst (a := a) e q, r => by
    cases (show _ = Value.ref a from r)
    obtain ⟨_, its, n, rv, ho⟩ := I.hok _ _ e
    obtain ⟨as, hr, hn⟩ := DaAll.reads I q rv
    refine ⟨_, Reads.list ho rfl rfl hr, fun b hb => ?_⟩
    rcases List.mem_cons.mp hb with z | z
    · rw [z, e]; simp
    · exact hn b z
  | _, _, _, .tup (a := a) e q, r => by
    cases (show _ = Value.ref a from r)
    obtain ⟨_, its, rv, o, ho, hc, n, hd⟩ := I.hok _ _ e
    obtain ⟨as, hr, hn⟩ := DaAll.reads I q rv
    exact ⟨_, Reads.tuple ho hc hd hr, hn⟩
  | _, _, _, .dic (a := a) (kvs := kvs) (ds := ds) e q, r => by
    cases (show _ = Value.ref a from r)
    obtain ⟨_, _, vs, rel, o, es, ep, ho, hx, hd, _, hp, _⟩ := I.hok _ _ e
    obtain ⟨rv, ek⟩ := kv_vals rel
    obtain ⟨r1, ev⟩ := pairs_reads (h := s.heap) hp
    obtain ⟨as, hr, hn⟩ := DaAll.reads I q rv
    have hl : (kvs.map (fun p => keyD p.1)).length = ds.length := by
      rw [List.length_map, ← q.length, List.length_map]
    have ek2 : (vs.map fun p => keyD p.1) = kvs.map fun p => keyD p.1 := by
      have e1 := congrArg (List.map keyD) ek
      rw [List.map_map, List.map_map] at e1
      exact e1.symm
    refine ⟨_, Reads.dict ho hx.1 hd (as := []) (bs := as) ?_ ?_, fun b hb => ?_⟩
    · rw [zip_fst hl, ← ek2]
      exact r1
    · rw [zip_snd hl, ev]
      exact hr
    · rcases List.mem_cons.mp (show b ∈ a :: ([] ++ as) from hb) with z | z
      · rw [z, e]; simp
      · exact hn b z
theorem DaAll.reads (I : Inv X pins σ H s) : ∀ {vs : List V} {ds : List PyData} {us : List Value}, DaAll H vs ds → Vals vs us → ∃ as, ReadsAll s.heap us ds as ∧ ∀ a ∈ as, H a ≠ none
  | _, _, _, .nil, r => by
    cases r
    exact ⟨_, .nil, fun _ z => nomatch z⟩
  | _, _, _, .cons h q, r => by
    cases r with
    | cons r1 r2 =>
      obtain ⟨as, a1, a2⟩ := Da.reads I h r1
      obtain ⟨bs, b1, b2⟩ := DaAll.reads I q r2
      refine ⟨_, .cons a1 b1, fun b hb => ?_⟩
      rcases List.mem_append.mp hb with z | z
      · exact a2 b z
      · exact b2 b z
end
/-- repr of data -/
def rRepr : List V → Hp → VK → Prop := fun xs H Q => ∃ v d, xs = [v] ∧ Da H v d ∧ d.showable = true ∧ d.depth ≤ 100 ∧ d.shown.length ≤ sizeLine ∧ Q (.str d.shown) H
theorem call_repr (hg : X.A.guards = some []) (hu : X.A.units + 150 < cLine) (hs : ∃ o, X.base.get? sysModules = some o) : CallR X (.builtin "repr") rRepr := by
  intro pins s σ H xs us Q I r h
  obtain ⟨v, d, rfl, hd, h1, h2, h3, q⟩ := h
  obtain ⟨u, rfl, ru⟩ := vals1 r
  obtain ⟨o, ho⟩ := hs
  have hsys : H sysModules = none := (I.bs _ _ ho).2
  have nsys : ∀ {as : List Addr}, (∀ a ∈ as, H a ≠ none) → sysModules ∉ as := fun z hm => z _ hm hsys
  cases hd with
  | non =>
    cases (show u = Value.none from ru)
    exact P.repr_of_none ⟨.str _, H, I.tok _, ⟨_, rfl⟩, by simpa only [PyData.shown] using q⟩
  | bl b =>
    cases (show u = Value.bool b from ru)
    exact P.repr_of_bool ⟨.str _, H, I.tok _, ⟨_, rfl⟩, by simpa only [PyData.shown] using q⟩
  | int i =>
    obtain ⟨t, rfl⟩ := ru
    exact P.repr_of_int (by simpa [PyData.showable] using h1) ⟨.str _, H, I.tok _, ⟨_, rfl⟩, by simpa only [PyData.shown] using q⟩
  | str x =>
    obtain ⟨t, rfl⟩ := ru
    exact P.repr_of_str ⟨.str _, H, I.tok _, ⟨_, rfl⟩, by simpa only [PyData.shown] using q⟩ (by simpa only [PyData.shown] using h3)
  | lst e w =>
    cases (show u = Value.ref _ from ru)
    obtain ⟨as, hr, hn⟩ := Da.reads I (.lst e w) rfl
    exact repr_of_reads' hr h1 (fun _ => nsys hn) hg (by omega) (fun _ _ z => z) (fun h' u tk k => ⟨.str _, H, I.kept k, ⟨_, rfl⟩, q⟩) h3
  | tup e w =>
    cases (show u = Value.ref _ from ru)
    obtain ⟨as, hr, hn⟩ := Da.reads I (.tup e w) rfl
    exact repr_of_reads' hr h1 (fun _ => nsys hn) hg (by omega) (fun _ _ z => z) (fun h' u tk k => ⟨.str _, H, I.kept k, ⟨_, rfl⟩, q⟩) h3
  | dic e w =>
    cases (show u = Value.ref _ from ru)
    obtain ⟨as, hr, hn⟩ := Da.reads I (.dic e w) rfl
    exact repr_of_reads' hr h1 (fun _ => nsys hn) hg (by omega) (fun _ _ z => z) (fun h' u tk k => ⟨.str _, H, I.kept k, ⟨_, rfl⟩, q⟩) h3
end
end VK
namespace VK
open PySem PySem.Spec PyProof.Rows L2
/-! ### defs around which no repr runs (the guards are known to be none) -/
section
variable (P : Program) (w : World) (K : PySem.W.Frag) (mg : Str → Option Value) (base : Heap) (CX : CXT)
structure FnG (k : Nat) (f : Addr) (fd : FuncData) (ps : List Str) (sp : Sp) : Prop where
  args : ∀ vs H Q E, sp vs H Q E → vs.length = ps.length
  go : ∀ {A : Around} {outer : List Env} {s : Shared} {H : Hp} {a : Args} {us : List Value} {vs : List V} {Q : VK} {E : XK},
    A.guards = some [] → Room k A → Env0 P w K mg base A outer s H → BindsTo s fd a (ps.zip us) → Vals vs us → sp vs H Q E →
    codeAny (model P w) A (.call (.ref f) a) (CR CX outer P w H s Q E) s
end
section
variable {P : Program} {w : World} {K : PySem.W.Frag} {mg : Str → Option Value} {base : Heap} {CX : CXT}
theorem FnG.of {k : Nat} {f : Addr} {fd : FuncData} {ps : List Str} {sp : Sp} (F : FnOk P w K mg base CX k f fd ps sp) : FnG P w K mg base CX k f fd ps sp :=
  ⟨F.len, fun _ r e b v h => F.run _ _ _ _ _ _ _ _ _ r e b v h⟩
theorem FnG.mono {j k : Nat} {f : Addr} {fd : FuncData} {ps : List Str} {sp : Sp} (F : FnG P w K mg base CX j f fd ps sp) (h : j ≤ k) : FnG P w K mg base CX k f fd ps sp :=
  ⟨F.args, fun g r e b v q => F.go g (r.mono h) e b v q⟩
theorem okG {x qual : Str} {st : Stmt} {f : Addr} {fd : FuncData} {N ps : List Str} {k : Nat} {sp : Sp} (F : Fun K x qual st f fd) (S : FnScope N ps (defScope st))
    (ln : ∀ vs H Q E, sp vs H Q E → vs.length = ps.length)
    (body : ∀ (cdv : Value) (A : Around) (outer : List Env) (s : Shared) (H : Hp) (vs : List V) (Q : VK) (E : XK),
      A.guards = some [] → Room k (A.deeper (envOfC qual (defScope st) s.heap.objs.size f cdv)) → sp vs H Q E →
      ∃ t, PSs (cxOf CX0 P w K mg base N qual (defScope st) f cdv A outer s H E).nox (defBody st) t ∧ t { nx := fun _ H' => Q .non H', rt := Q } (start N vs) H) :
    FnG P w K mg base CX0 (k + 1) f fd ps sp := by
  obtain ⟨oc, od, kV, doc, pm, an, cdv, ct, osl, e, lk, hcd⟩ := F.ex
  subst e
  refine ⟨ln, ?_⟩
  intro A outer s H a us vs Q E gA room ev bd rel sps
  have inK := ev.mod.kin.keeps fun b o z => (ev.bs b o z).1
  have nolim := ev.mod.nolimit.keeps fun b o z => (ev.bs b o z).1
  have lens := ln _ _ _ _ sps
  have kinds : ∀ y ∈ ps.zip us, (defScope st).names.lookup y.1 = some .local ∨
      ((defScope st).names.lookup y.1 = some .cell ∧ ((cellsFrom (s.heap.objs.size + 1) (defScope st).names []).lookup y.1).isSome = true) := by
    intro y hy
    have hm : y.1 ∈ ps := (List.of_mem_zip (show (y.1, y.2) ∈ ps.zip us from hy)).1
    exact (S.par y.1 hm).imp _root_.id fun z => ⟨z, PySem.W.cellsFrom_some _ _ _ (.inl z)⟩
  refine codeAny_call_function room.depth (inK _ _ lk) rfl S.co S.gen rfl (PySem.W.codeRec_of inK hcd) (bd _ _ _ _ ?_)
  refine wpAny_newFunctionEnv_cells S.kind kinds ?_
  rintro env rfl s1 inC
  refine ⟨nolim.keeps inC.toInCall.keep, codeAny_func ?_⟩
  obtain ⟨t, ht, hq⟩ := body cdv A outer s H vs Q E gA (room.deeper _) sps
  have J := inv_start (CX := CX0) (mg := mg) (base := base) (E := E) S room.hd ev lens rel inC
  refine wpAny_mono (ht.nox.run [] s1 (start N vs) H _ J hq) ?_ fun _ _ z => z
  intro fl s' hs
  match fl, hs with
  | .ret u, hs => obtain ⟨v, σ', H', J', rv, q⟩ := hs; exact ⟨v, H', J'.os, J'.bare, J'.base, J'.hok, rv, q⟩
  | .next, hs => obtain ⟨σ', H', J', q⟩ := hs; exact ⟨.non, H', J'.os, J'.bare, J'.base, J'.hok, rfl, q⟩
  | .brk, hs => obtain ⟨_, _, _, q⟩ := hs; exact q.elim
  | .cont, hs => obtain ⟨_, _, _, q⟩ := hs; exact q.elim
end
section
variable {X : Cx} {CX : CXT} {k : Nat} {f : Addr} {fd : FuncData} {ps : List Str} {sp : Sp} {dvs : List V} {ds : List Value} {E : XK} {x : Str} {p pos : Pos} {e : Expr} {es : List Expr} {t : TA}
/-- f(e, ..), f such a def -/
theorem pe_callG (hga : X.A.guards = some []) (F : FnG X.prog X.w X.K X.mg X.base CX k f fd ps sp) (room : Room k X.A) (gl : Gl X x) (at_ : X.mg x = some (.ref f)) (kp : PySem.W.keepIn X.K (.ref f) = true) (bd : Binds X.K fd ps ds) (dv : Vals dvs ds) (pa : Passes CX X E)
    (args : PA X (e :: es) t) (nd : (x == ("__debug__" : Str)) = false := by decide) (st : starEach (e :: es) X.env = (false, eval e X.env) :: starEach es X.env := by rfl) (pl : (backTo pos (starEach es X.env)).any (·.1) = false := by rfl) :
    PE X (.Call (.Name x p) (e :: es) [] pos) (tCall sp dvs E t) := by
  constructor
  intro pins s σ H Q I h
  refine wpAny_Call_Name_kw (ld_glob I gl at_ ?_ nd)
  refine PySem.W.callWith_K (h₀ := X.base) I.ok.mod.kin kp (thn (args.run pos pins s σ H _ I h) ?_) st pl
  intro us s1 ⟨vs, H1, I1, r, q⟩
  refine ⟨I1.kIn, ?_⟩
  have rel : Vals (vs ++ dvs) (us ++ ds) := r.append dv
  have hl : (us ++ ds).length = ps.length := rel.length.symm.trans (F.args _ _ _ _ q)
  refine wpAny_call (codeAny_mono (F.go hga room I1.env0 (bd s1 us I1.kIn hl) rel q) ?_)
  intro r s' hq
  match r, hq with
  | .error e, hq => exact pa pins σ H1 s1 e s' I1 hq
  | .ok (.ret u), hq => exact I1.after hq
  | .ok .next, hq => exact hq.elim
  | .ok .brk, hq => exact hq.elim
  | .ok .cont, hq => exact hq.elim
end
end VK
namespace VK
open PySem PySem.Spec PyProof.Rows L2
/-! ### the end of a law whose def is such a one -/
section
variable {P : Program} {w : World} {K : PySem.W.Frag} {mg mb : Str → Option Value} {k : Nat} {fa a : Addr} {fd : FuncData} {x : Str} {sp : Sp} {s₁ : Shared} {vs : List Value} {ns : List Int}
def Done (s₁ : Shared) (r : Result) (s' : Shared) : Prop := r = .ok (.ret (.bool true)) ∧ OldK s₁.heap s'.heap ∧ s'.os = s₁.os ∧ AllBare s'.gens
/-- over one abstract heap: only the script may stand in it -/
theorem end_core (KX : K.In s₁.heap) (hns : s₁.heap.Ns mainGlobals mg) (hb : s₁.heap.Ns builtinsNs mb) (hbb : ∀ y : Str, y ≠ "__name__" → mb y = bootBuiltins y) (hlim : s₁.heap.NoLimit) (hg : s₁.gens = #[])
    (ha : s₁.heap.get? a = some { cls := .type "list", data := .seq vs.toArray }) (room : Room k callerA)
    (hm : ∃ m, s₁.heap.Ns sysModules m) (F : ∀ base : Heap, K.In base → base.Ns mainGlobals mg → (∃ o, base.get? sysModules = some o) → FnG P w K mg base CX0 k fa fd [x] sp) (bd : ∀ (s : Shared) (u : Value), BindsTo s fd ⟨[u], []⟩ [(x, u)])
    {H : Hp} (hO : Only H) (hsp : sp [.ref a] H (fun v _ => v = .bl true) fun _ _ _ => False) (hok : HOk P w H s₁.heap) (hA : ∀ b, H b ≠ none → b = a) (hK : H a ≠ none → K.lookup a = none) :
    codeAny (model P w) callerA (.call (.ref fa) ⟨[.ref a], []⟩) (Done s₁) s₁ := by
  have at_a : ∀ {b u}, H b = some u → b = a := fun z => hA _ (by rw [z]; exact fun q => nomatch q)
  have none_of_dict : ∀ {b o es ep}, s₁.heap.get? b = some o → o.data = Data.dict es ep → H b = none := by
    intro b o es ep e d
    match q : H b with
    | none => rfl
    | some u =>
      rw [at_a q, ha] at e
      cases e
      cases (show Data.seq vs.toArray _ = Data.dict es ep from d)
  have ns_ : ∀ {b m}, s₁.heap.Ns b m → (hidT s₁.heap H).Ns b m := by
    rintro b m ⟨o, es, ep, e, d, r⟩
    exact ⟨o, es, ep, hidT_get e (none_of_dict e d), d, r⟩
  have kin_ : K.In (hidT s₁.heap H) := by
    intro b o e
    refine hidT_get (KX b o e) ?_
    match q : H b with
    | none => rfl
    | some u =>
      have z := at_a q
      subst z
      rw [hK (by rw [q]; exact fun z => nomatch z)] at e
      cases e
  obtain ⟨mc, l1, l2⟩ := hlim
  have ev : Env0 P w K mg (hidT s₁.heap H) callerA [] s₁ H :=
    { frames := rfl, mod := ⟨kin_, ns_ hns, ⟨mb, ns_ hb, hbb⟩, ⟨mc, ns_ l1, l2⟩⟩, bs := fun b o e => of_hidT e, bsz := Nat.le_of_eq (hidT_size _ _), funs := trivial, frf := (fun b z => nomatch (show b ∈ ([] : List Addr) from z)), hok := hok, bare := .of_eq hg }
  have sysB : ∃ o, (hidT s₁.heap H).get? sysModules = some o := by
    obtain ⟨m, z⟩ := hm
    obtain ⟨o, es, ep, e, _⟩ := ns_ z
    exact ⟨o, e⟩
  refine codeAny_mono ((F _ kin_ (ns_ hns) sysB).go (us := [.ref a]) (vs := [.ref a]) rfl room ev (bd s₁ (.ref a)) (.cons rfl .nil) hsp) ?_
  intro r s' h
  match r, h with
  | .error e, h => exact h.elim
  | .ok .next, h => exact h.elim
  | .ok .brk, h => exact h.elim
  | .ok .cont, h => exact h.elim
  | .ok (.ret u), h =>
    obtain ⟨v, H', os, bare, un, hok', rv, q⟩ := h
    cases (show v = .bl true from q)
    cases (show u = Value.bool true from rv)
    refine ⟨rfl, OldK.of_keep ?_, os, bare⟩
    intro b o e
    match q : H b with
    | none => exact un.keep b o e q (fun z => nomatch (show b ∈ ([] : List Addr) from z)) (fun z => nomatch z)
    | some u =>
      rcases hO b with z | z
      · rw [q] at z
        cases z
      · obtain ⟨ob, xs, z⟩ := z
        have e1 := (hok b _ z).1
        rw [e] at e1
        cases e1
        exact (hok' b _ (un.frzs b _ _ z)).1
theorem end_call (KX : K.In s₁.heap) (hns : s₁.heap.Ns mainGlobals mg) (hb : s₁.heap.Ns builtinsNs mb) (hbb : ∀ y : Str, y ≠ "__name__" → mb y = bootBuiltins y) (hlim : s₁.heap.NoLimit) (hg : s₁.gens = #[])
    (ha : s₁.heap.get? a = some { cls := .type "list", data := .seq vs.toArray }) (hi : IntsAre vs ns) (hl : ns.length ≤ sizeLine) (room : Room k callerA)
    (hm : ∃ m, s₁.heap.Ns sysModules m) (F : ∀ base : Heap, K.In base → base.Ns mainGlobals mg → (∃ o, base.get? sysModules = some o) → FnG P w K mg base CX0 k fa fd [x] sp) (bd : ∀ (s : Shared) (u : Value), BindsTo s fd ⟨[u], []⟩ [(x, u)])
    (hsp : ∀ H : Hp, Only H → SqL K H a (ns.map V.int) → sp [.ref a] H (fun v _ => v = .bl true) fun _ _ _ => False) :
    codeAny (model P w) callerA (.call (.ref fa) ⟨[.ref a], []⟩) (Done s₁) s₁ := by
  have rv := vals_ints hi
  have lv := hi.length
  match hk : K.lookup a with
  | some o =>
    have e := KX a o hk
    rw [ha] at e
    cases e
    have o0 : Only fun _ => none := fun _ => .inl rfl
    refine end_core KX hns hb hbb hlim hg ha room hm F bd o0 (hsp _ o0 (.inr ⟨_, vs.toArray, _, hk, rfl, rfl, rfl, ?_, by simpa using rv⟩)) ?_ (fun b z => absurd rfl z) fun z => absurd rfl z
    · rw [List.size_toArray, lv]
      exact hl
    · intro b u z
      cases (show (none : Option HO) = some u from z)
  | none =>
    have o1 : Only fun b => if b = a then some (.frz { cls := .type "list", data := .seq vs.toArray } (.lst (ns.map V.int))) else none := fun b => by
      by_cases z : b = a
      · exact .inr ⟨_, _, if_pos z⟩
      · exact .inl (if_neg z)
    refine end_core KX hns hb hbb hlim hg ha room hm F bd o1 (hsp _ o1 (.inl (.inr ⟨_, if_pos rfl⟩))) ?_ ?_ fun _ => hk
    · intro b u z
      by_cases hz : b = a
      · cases (if_pos hz).symm.trans z
        subst hz
        exact ⟨ha, by rw [List.length_map]; exact hl, vs, _, rv, ha⟩
      · cases (if_neg hz).symm.trans z
    · intro b z
      by_cases hz : b = a
      · exact hz
      · exact absurd (if_neg hz) z
end
/-- walk_ofB for such a law -/
theorem walk_g {l : PySem.W.OpenLaw} {n k : Nat} {q : Program} {loose : List Str} {XP : (Str → Option Value) → Heap → Prop} {YP : World → Heap → Prop} {d : DefRec} {K : Params → PySem.W.Frag} {sp : World → Sp} {x : Str}
    (hq : importsNone q = true) (hn : l.most = some n) (hn2 : n ≤ sizeLine) (hdf : d.params.defaults = []) (room : Room k callerA) (hY : ∀ (w : World) (h : Heap), YP w h → (K w.params).In h)
    (F : ∀ (w : World) (mg : Str → Option Value) (fa : Addr) (h : Heap), (K w.params).In h → h.Ns mainGlobals mg → mg d.name = some (.ref fa) →
      ∃ fd : FuncData, (∀ (s : Shared) (u : Value), BindsTo s fd ⟨[u], []⟩ [(x, u)]) ∧
        ∀ base : Heap, (K w.params).In base → base.Ns mainGlobals mg → (∃ o, base.get? sysModules = some o) → FnG l.prog w (K w.params) mg base CX0 k fa fd [x] (sp w))
    (hsp : ∀ (w : World) (H : Hp) (a : Addr) (ns : List Int), ns.length ≤ n → (∀ z ∈ ns, Builtin.Int.intBits z ≤ 1048576) → Only H → SqL (K w.params) H a (ns.map V.int) → sp w [.ref a] H (fun v _ => v = .bl true) fun _ _ _ => False) :
    PySem.W.WalkO q loose XP YP l.row.toRowW d [] (fun f vs => PySem.call f vs) := by
  refine Att.attach_callB hn hdf ?_
  intro w s₀ s₁ mg mb fa o pm cd doc a vs ns G Y ho hd hcd hmg hobj hints hlen hbits hg
  obtain ⟨fd, hb, hF⟩ := F w mg fa _ (hY w _ Y) G.T.g hmg
  exact end_call (hY w _ Y) G.T.g G.T.b G.T.builtins G.T.nolimit hg hobj hints (Nat.le_trans hlen hn2) room ((G.T.seer hq).mods.imp fun _ z => z.1) hF hb fun H hO hS => hsp w H a ns hlen hbits hO hS
end VK
namespace VK
open PySem PySem.Spec PyProof.Rows L2
/-! ### displays of written values and of names whose values are known data -/
abbrev Env1 := List (Nat × PyData)
mutual
inductive Lit (N : List Str) (sc : Scope) (ρ : Env1) : Expr → PyData → Prop
  | non {j p} : Lit N sc ρ (.Constant .none j p) .none
  | bl {b j p} : Lit N sc ρ (.Constant (.bool b) j p) (.bool b)
  | int {i j p} : Lit N sc ρ (.Constant (.int i) j p) (.int i)
  | str {x j p} : Lit N sc ρ (.Constant (.str x) j p) (.str x)
  | neg {e i p} : Lit N sc ρ e (.int i) → Lit N sc ρ (.UnaryOp .USub e p) (.int (-i))
  | pow {e f i j p} : Lit N sc ρ e (.int i) → Lit N sc ρ f (.int j) → CPow i j → Lit N sc ρ (.BinOp e .Pow f p) (.int (i ^ j.toNat))
  | add {e f i j p} : Lit N sc ρ e (.int i) → Lit N sc ρ f (.int j) → Lit N sc ρ (.BinOp e .Add f p) (.int (i + j))
  | sub {e f i j p} : Lit N sc ρ e (.int i) → Lit N sc ρ f (.int j) → Lit N sc ρ (.BinOp e .Sub f p) (.int (i - j))
  | tup {es ds k p} : LitAll N sc ρ es ds → ds.length ≤ 1000 → Lit N sc ρ (.Tuple es k p) (.tuple ds)
  | lst {es ds p} : LitAll N sc ρ es ds → ds.length ≤ 1000 → Lit N sc ρ (.List es p) (.list ds)
  | dic0 {p} : Lit N sc ρ (.Dict [] [] p) (.dict [])
  | dic1 {x e i j p p'} : Lit N sc ρ e (.int i) → Lit N sc ρ (.Dict [some (.Constant (.str x) j p')] [e] p) (.dict [(.str x, .int i)])
  | var {x d p} (i : Nat) : N[i]? = some x → Vis sc x → (i, d) ∈ ρ → (x == ("__debug__" : Str)) = false → (x == ("__classdict__" : Str)) = false → Lit N sc ρ (.Name x p) d
inductive LitAll (N : List Str) (sc : Scope) (ρ : Env1) : List Expr → List PyData → Prop
  | nil : LitAll N sc ρ [] []
  | cons {e es d ds} : Lit N sc ρ e d → LitAll N sc ρ es ds → LitAll N sc ρ (e :: es) (d :: ds)
end
/-- the slots of ρ hold these data -/
def Holds1 (ρ : Env1) (σ : L2.St) (H : Hp) : Prop := ∀ p ∈ ρ, ∃ v, σ[p.1]? = some (some v) ∧ Da H v p.2
theorem Holds1.same {ρ : Env1} {σ : L2.St} {H H' : Hp} (h : Holds1 ρ σ H) (e : Same H H') : Holds1 ρ σ H' := fun p hp => by
  obtain ⟨v, e1, e2⟩ := h p hp
  exact ⟨v, e1, e2.same e⟩
/-- G, and what is new behind H -/
def plus (G H H' : Hp) : Hp := fun a => match G a with
  | some o => some o
  | none => match H a with
    | some _ => none
    | none => H' a
def tLit (ρ : Env1) (d : PyData) : TE := fun σ H Q => ∃ G, Same G H ∧ Holds1 ρ σ G ∧ ∀ v H', Same H H' → Da (plus G H H') v d → Q v H'
def tLits (ρ : Env1) (ds : List PyData) : TA := fun σ H Q => ∃ G, Same G H ∧ Holds1 ρ σ G ∧ ∀ vs H', Same H H' → DaAll (plus G H H') vs ds → Q vs H'
theorem plus_cases {G H H' : Hp} {a : Addr} {o : HO} (h : plus G H H' a = some o) : G a = some o ∨ (G a = none ∧ H a = none ∧ H' a = some o) := by
  unfold plus at h
  cases g : G a with
  | some u =>
    rw [g] at h
    exact .inl h
  | none =>
    rw [g] at h
    cases z : H a with
    | some u =>
      rw [z] at h
      cases h
    | none =>
      rw [z] at h
      exact .inr ⟨rfl, rfl, h⟩
theorem plus_old {G H H' : Hp} {a : Addr} {o : HO} (h : G a = some o) : plus G H H' a = some o := by
  unfold plus
  rw [h]
theorem plus_new {G H H' : Hp} {a : Addr} {o : HO} (g : G a = none) (z : H a = none) (h : H' a = some o) : plus G H H' a = some o := by
  unfold plus
  rw [g, z]
  exact h
theorem plus_refl {G H : Hp} : Same G (plus G H H) := fun _ _ h => plus_old h
theorem plus_mono {G H H1 H2 : Hp} (s : Same H1 H2) : Same (plus G H H1) (plus G H H2) := fun a o h => by
  rcases plus_cases h with z | ⟨z1, z2, z3⟩
  · exact plus_old z
  · exact plus_new z1 z2 (s _ _ z3)
theorem plus_later {G H H1 H2 : Hp} (s : Same H H1) : Same (plus G H1 H2) (plus G H H2) := fun a o h => by
  rcases plus_cases h with z | ⟨z1, z2, z3⟩
  · exact plus_old z
  · exact plus_new z1 (s.free z2) z3
theorem plus_in {G H H' : Hp} (g : Same G H) (s : Same H H') : Same (plus G H H') H' := fun a o h => by
  rcases plus_cases h with z | ⟨_, _, z3⟩
  · exact s _ _ (g _ _ z)
  · exact z3
theorem plus_at {G H H' : Hp} {p : Addr} {o : HO} (g : Same G H) (s : Same H H') (np : H' p = none) : plus G H (upd H' p o) p = some o := plus_new (g.free (s.free np)) (s.free np) upd_same
theorem same_new {H : Hp} {p : Addr} {o : HO} (h : H p = none) : Same H (upd H p o) := fun b u q => by
  rw [upd_ne (ne_of_none q h)]
  exact q
theorem PE.imp {X : Cx} {e : Expr} {t t' : TE} (h : PE X e t) (i : ∀ σ H Q, t' σ H Q → t σ H Q) : PE X e t' := ⟨fun pins s σ H Q I q => h.run pins s σ H Q I (i σ H Q q)⟩
theorem PA.imp {X : Cx} {es : List Expr} {t t' : TA} (h : PA X es t) (i : ∀ σ H Q, t' σ H Q → t σ H Q) : PA X es t' := ⟨fun pos pins s σ H Q I q => h.run pos pins s σ H Q I (i σ H Q q)⟩
theorem Da.int_inv {H : Hp} {v : V} {i : Int} (h : Da H v (.int i)) : v = .int i := by
  cases h
  rfl
mutual
theorem pe_lit {X : Cx} {ρ : Env1} : ∀ {e : Expr} {d : PyData}, Lit X.N X.env.scope ρ e d → PE X e (tLit ρ d)
  | _, _, .non => PE.imp pe_non fun σ H Q ⟨G, _, _, q⟩ => q _ _ (Same.refl H) .non
  | _, _, .bl => PE.imp pe_bl fun σ H Q ⟨G, _, _, q⟩ => q _ _ (Same.refl H) (.bl _)
  | _, _, .int => PE.imp pe_int fun σ H Q ⟨G, _, _, q⟩ => q _ _ (Same.refl H) (.int _)
  | _, _, .str => PE.imp pe_str fun σ H Q ⟨G, _, _, q⟩ => q _ _ (Same.refl H) (.str _)
  | _, _, .neg h => PE.imp (pe_un un_neg (pe_lit h)) fun σ H Q ⟨G, g, hl, q⟩ => ⟨G, g, hl, fun v H' s d => ⟨_, d.int_inv, q _ _ s (.int _)⟩⟩
  | _, _, .pow h1 h2 c => PE.imp (pe_op op_pow (pe_lit h1) (pe_lit h2)) fun σ H Q ⟨G, g, hl, q⟩ => ⟨G, g, hl, fun v H' s d => ⟨G, g.trans s, hl, fun v2 H2 s2 d2 => ⟨_, _, d.int_inv, d2.int_inv, c, q _ _ (s.trans s2) (.int _)⟩⟩⟩
  | _, _, .add h1 h2 => PE.imp (pe_op op_add (pe_lit h1) (pe_lit h2)) fun σ H Q ⟨G, g, hl, q⟩ => ⟨G, g, hl, fun v H' s d => ⟨G, g.trans s, hl, fun v2 H2 s2 d2 => ⟨_, _, d.int_inv, d2.int_inv, q _ _ (s.trans s2) (.int _)⟩⟩⟩
  | _, _, .sub h1 h2 => PE.imp (pe_op op_sub (pe_lit h1) (pe_lit h2)) fun σ H Q ⟨G, g, hl, q⟩ => ⟨G, g, hl, fun v H' s d => ⟨G, g.trans s, hl, fun v2 H2 s2 d2 => ⟨_, _, d.int_inv, d2.int_inv, q _ _ (s.trans s2) (.int _)⟩⟩⟩
  | _, _, .tup h z => PE.imp (pe_tup (pa_lit h)) fun σ H Q ⟨G, g, hl, q⟩ => ⟨G, g, hl, fun vs H' s d => ⟨by rw [d.length]; exact Nat.le_of_lt (small1000 z), fun p np => q _ _ (s.trans (same_new np)) (.tup (plus_at g s np) (d.same (plus_mono (same_new np))))⟩⟩
  | _, _, .lst h z => PE.imp (pe_lst (pa_lit h)) fun σ H Q ⟨G, g, hl, q⟩ => ⟨G, g, hl, fun vs H' s d => ⟨by rw [d.length]; exact Nat.le_of_lt (small1000 z), fun p np => q _ _ (s.trans (same_new np)) (.lst (plus_at g s np) (d.same (plus_mono (same_new np))))⟩⟩
  | _, _, .dic0 => PE.imp pe_dnewK fun σ H Q ⟨G, g, hl, q⟩ => fun p np => q _ _ (same_new np) (.dic (kvs := []) (ds := []) (plus_at g (Same.refl H) np) .nil)
  | _, _, .dic1 (x := x) (i := i) h => PE.imp (pe_disp (pps_cons pe_str (pe_lit h) pps_nil) rfl rfl (fun z => nomatch z) (by simp)) fun σ H Q ⟨G, g, hl, q⟩ => fun p np =>
      ⟨G, g.trans (same_new np), hl, fun v H' s dv => by
        refine ⟨s _ _ upd_same, [(.inr x, v)], rfl, Nat.le_of_ble_eq_true rfl, ?_⟩
        have s2 : Same H (upd H' p (.dK (mergeK [] [(.inr x, v)]))) := fun b o e => by
          rw [upd_ne (ne_of_none e np)]
          exact s _ _ (same_new np _ _ e)
        have ev := dv.int_inv
        subst ev
        exact q _ _ s2 (.dic (kvs := [(.inr x, .int i)]) (ds := [.int i]) (plus_new (g.free np) np upd_same) (.cons (.int i) .nil))⟩
  | _, _, .var i hN hv hm h1 h2 => PE.imp (pe_var hN hv h1 h2) fun σ H Q ⟨G, g, hl, q⟩ => by
      obtain ⟨v, e1, e2⟩ := hl _ hm
      exact ⟨v, e1, q _ _ (Same.refl H) (e2.same plus_refl)⟩
theorem pa_lit {X : Cx} {ρ : Env1} : ∀ {es : List Expr} {ds : List PyData}, LitAll X.N X.env.scope ρ es ds → PA X es (tLits ρ ds)
  | _, _, .nil => PA.imp pa_nil fun σ H Q ⟨G, g, hl, q⟩ => q _ _ (Same.refl H) .nil
  | _, _, .cons h hs => PA.imp (pa_cons (pe_lit h) (pa_lit hs) (by cases h <;> rfl)) fun σ H Q ⟨G, g, hl, q⟩ =>
      ⟨G, g, hl, fun v H' s d => ⟨G, g.trans s, hl, fun vs H2 s2 ds2 => q _ _ (s.trans s2) (.cons (d.same (plus_mono s2)) (ds2.same (plus_later s)))⟩⟩
end
end VK
namespace VK
open PySem PySem.Spec PyProof.Rows L2
/-! ### isinstance of data -/
def kindD : PyData → String
  | .none => "NoneType"
  | .bool _ => "bool"
  | .int _ => "int"
  | .str _ => "str"
  | .list _ => "list"
  | .tuple _ => "tuple"
  | .dict _ => "dict"
theorem kind_of {K : PySem.W.Frag} {H : Hp} {v : V} {d : PyData} (h : Da H v d) : TyX K H v (.type (kindD d)) := by
  cases h with
  | non => exact .base .non
  | bl b => exact .base (.bl b)
  | int i => exact .base (.int i)
  | str x => exact .base (.str x)
  | lst e _ => exact .base (.lst e)
  | tup e _ => exact .base (.tup e)
  | dic e _ => exact .base (.dK e)
def isI : PyData → Bool
  | .int _ => true
  | .bool _ => true
  | _ => false
def isBo : PyData → Bool
  | .bool _ => true
  | _ => false
def isT : PyData → Bool
  | .tuple _ => true
  | _ => false
def isS : PyData → Bool
  | .str _ => true
  | _ => false
def isL : PyData → Bool
  | .list _ => true
  | _ => false
theorem kit_int (d : PyData) : kitB (kindD d) "int" = some (isI d) := by cases d <;> (dsimp only [kindD, isI]; decide +kernel)
theorem kit_bool (d : PyData) : kitB (kindD d) "bool" = some (isBo d) := by cases d <;> (dsimp only [kindD, isBo]; decide +kernel)
theorem kit_tuple (d : PyData) : kitB (kindD d) "tuple" = some (isT d) := by cases d <;> (dsimp only [kindD, isT]; decide +kernel)
theorem kit_str (d : PyData) : kitB (kindD d) "str" = some (isS d) := by cases d <;> (dsimp only [kindD, isS]; decide +kernel)
theorem kit_list (d : PyData) : kitB (kindD d) "list" = some (isL d) := by cases d <;> (dsimp only [kindD, isL]; decide +kernel)
def rIsD : List V → Hp → VK → Prop := fun xs H Q => ∃ v d n b, xs = [v, .ty n] ∧ Da H v d ∧ kitB (kindD d) n = some b ∧ Q (.bl b) H
theorem call_isD {X : Cx} : CallR X (.builtin "isinstance") rIsD := by
  intro pins s σ H xs us Q I r h
  obtain ⟨v, d, n, b, rfl, hd, hk, q⟩ := h
  exact call_isi pins s σ H _ us Q I r ⟨v, .ty n, _, _, b, rfl, .ty n, kind_of hd, kit_ty hk, q⟩

/-! ### defs by name -/
structure DefAt (K : PySem.W.Frag) (mg : Str → Option Value) (x : Str) (st : Stmt) (ps : List Str) : Prop where
  ex : ∃ f fd, Fun K x x st f fd ∧ Binds K fd ps [] ∧ mg x = some (.ref f)
structure CalG (P : Program) (w : World) (K : PySem.W.Frag) (mg : Str → Option Value) (base : Heap) (k : Nat) (x : Str) (sp : Sp) : Prop where
  ex : ∃ f fd ps, FnG P w K mg base CX0 k f fd ps sp ∧ mg x = some (.ref f) ∧ PySem.W.keepIn K (.ref f) = true ∧ Binds K fd ps []
theorem CalG.imp {P w K mg base k x} {sp sp' : Sp} (c : CalG P w K mg base k x sp) (h : ∀ vs H Q E, sp' vs H Q E → sp vs H Q E) : CalG P w K mg base k x sp' := by
  obtain ⟨f, fd, ps, F, m, kp, b⟩ := c.ex
  exact ⟨f, fd, ps, ⟨fun vs H Q E z => F.args vs H Q E (h _ _ _ _ z), fun g r e bd v z => F.go g r e bd v (h _ _ _ _ z)⟩, m, kp, b⟩
theorem pe_cg {X : Cx} {k j : Nat} {x : Str} {p pos : Pos} {e : Expr} {es : List Expr} {t : TA} {sp : Sp} (c : CalG X.prog X.w X.K X.mg X.base k x sp) (hga : X.A.guards = some []) (room : Room j X.A) (hk : k ≤ j) (gl : Gl X x)
    (args : PA X (e :: es) t) (nd : (x == ("__debug__" : Str)) = false := by decide) (st : starEach (e :: es) X.env = (false, eval e X.env) :: starEach es X.env := by rfl) (pl : (backTo pos (starEach es X.env)).any (·.1) = false := by rfl) :
    PE X (.Call (.Name x p) (e :: es) [] pos) (tCall sp [] E0 t) := by
  obtain ⟨f, fd, ps, F, m, kp, b⟩ := c.ex
  exact pe_callG hga F (room.mono hk) gl m kp b .nil pass0 args nd st pl
theorem def_ok {P : Program} {w : World} {K : PySem.W.Frag} {mg : Str → Option Value} {base : Heap} {x : Str} {st : Stmt} {N ps : List Str} {k : Nat} {sp : Sp} (D : DefAt K mg x st ps) (S : FnScope N ps (defScope st))
    (ln : ∀ vs H Q E, sp vs H Q E → vs.length = ps.length)
    (body : ∀ (f : Addr) (cdv : Value) (A : Around) (outer : List Env) (s : Shared) (H : Hp) (vs : List V) (Q : VK) (E : XK),
      A.guards = some [] → Room k (A.deeper (envOfC x (defScope st) s.heap.objs.size f cdv)) → sp vs H Q E →
      ∃ t, PSs (cxOf CX0 P w K mg base N x (defScope st) f cdv A outer s H E).nox (defBody st) t ∧ t { nx := fun _ H' => Q .non H', rt := Q } (start N vs) H) :
    CalG P w K mg base (k + 1) x sp := by
  obtain ⟨f, fd, F, b, m⟩ := D.ex
  exact ⟨f, fd, ps, okG F S ln (body f), m, F.kp, b⟩
/-- nothing can be asked with no call left -/
theorem none_left {P : Program} {w : World} {K : PySem.W.Frag} {mg : Str → Option Value} {base : Heap} {x : Str} {st : Stmt} {ps : List Str} {sp : Sp} (D : DefAt K mg x st ps) (no : ∀ vs H Q E, ¬ sp vs H Q E) : CalG P w K mg base 0 x sp := by
  obtain ⟨f, fd, F, b, m⟩ := D.ex
  exact ⟨f, fd, ps, ⟨fun vs H Q E z => (no _ _ _ _ z).elim, fun _ _ _ _ _ z => (no _ _ _ _ z).elim⟩, m, F.kp, b⟩

/-! ### a bag of draws at b, all else as it was -/
def off (b : Addr) (H : Hp) : Hp := fun a => if a = b then none else H a
def Keep (b : Addr) (H H' : Hp) : Prop := Same (off b H) (off b H')
theorem off_get {b a : Addr} {H : Hp} {o : HO} (h : off b H a = some o) : a ≠ b ∧ H a = some o := by
  unfold off at h
  by_cases e : a = b
  · rw [if_pos e] at h
    cases h
  · rw [if_neg e] at h
    exact ⟨e, h⟩
theorem off_put {b a : Addr} {H : Hp} {o : HO} (n : a ≠ b) (h : H a = some o) : off b H a = some o := by
  unfold off
  rw [if_neg n]
  exact h
theorem off_same {b : Addr} {H : Hp} : Same (off b H) H := fun _ _ h => (off_get h).2
theorem Keep.refl (b : Addr) (H : Hp) : Keep b H H := Same.refl _
theorem Keep.trans {b : Addr} {H H1 H2 : Hp} (x : Keep b H H1) (y : Keep b H1 H2) : Keep b H H2 := Same.trans x y
theorem Keep.of {b : Addr} {H H' : Hp} (s : Same H H') : Keep b H H' := fun a o h => off_put (off_get h).1 (s _ _ (off_get h).2)
theorem Keep.at {b : Addr} {H : Hp} {o : HO} : Keep b H (upd H b o) := fun a u h => off_put (off_get h).1 (by rw [upd_ne (off_get h).1]; exact (off_get h).2)
def BagAt (b : Addr) (H : Hp) : Prop := ∃ g s n : Int, H b = some (.lst [.int g, .int s, .int n]) ∧ 0 ≤ g ∧ 0 ≤ s ∧ s < 2305843009213693952 ∧ 0 ≤ n
theorem BagAt.same {b : Addr} {H H' : Hp} (h : BagAt b H) (s : Same H H') : BagAt b H' := by
  obtain ⟨g, x, n, e, r⟩ := h
  exact ⟨g, x, n, s _ _ e, r⟩
/-- what is new beside a bag is off it -/
theorem off_new {b p : Addr} {H : Hp} {o : HO} (h : BagAt b H) (np : H p = none) : off b (upd H p o) p = some o := by
  obtain ⟨g, x, n, e, r⟩ := h
  exact off_put (fun z => by rw [z, e] at np; cases np) upd_same
/-- data that were made beside a bag are off it -/
def spDraw : Sp := fun vs H Q _ => ∃ b m, vs = [.ref b, .int m] ∧ BagAt b H ∧ 0 < m ∧ m < 1073741824 ∧ ∀ d H', Keep b H H' → BagAt b H' → 0 ≤ d → d < m → Q (.int d) H'
def spPick : Sp := fun vs H Q _ => ∃ b v ds, vs = [.ref b, v] ∧ BagAt b H ∧ Da (off b H) v (.list ds) ∧ ds ≠ [] ∧ ds.length ≤ 1000 ∧ ∀ r d H', Keep b H H' → BagAt b H' → d ∈ ds → Da (off b H') r d → Q r H'
end VK
namespace VK
open PySem PySem.Spec PyProof.Rows L2
theorem Da.tup_inv {H : Hp} {v : V} {ds : List PyData} (h : Da H v (.tuple ds)) : ∃ a xs, v = .ref a ∧ H a = some (.tup xs) ∧ DaAll H xs ds := by
  cases h with
  | tup e r => exact ⟨_, _, rfl, e, r⟩
theorem Da.lst_inv {H : Hp} {v : V} {ds : List PyData} (h : Da H v (.list ds)) : ∃ a xs, v = .ref a ∧ H a = some (.lst xs) ∧ DaAll H xs ds := by
  cases h with
  | lst e r => exact ⟨_, _, rfl, e, r⟩
theorem Da.str_inv {H : Hp} {v : V} {x : Str} (h : Da H v (.str x)) : v = .str x := by
  cases h
  rfl
end VK
namespace VK
open PySem PySem.Spec PyProof.Rows L2
/-- what was made beside a bag of data off it is off it -/
theorem plus_off {b : Addr} {H H' : Hp} (h : BagAt b H) (s : Same H H') : Same (plus (off b H) H H') (off b H') := fun a o e => by
  rcases plus_cases e with z | ⟨_, z2, z3⟩
  · exact off_put (off_get z).1 (s _ _ (off_get z).2)
  · obtain ⟨g, x, n, eb, _⟩ := h
    exact off_put (fun w => by rw [w, eb] at z2; cases z2) z3
theorem lit_off {b : Addr} {H H' : Hp} {v : V} {d : PyData} (h : BagAt b H) (s : Same H H') (x : Da (plus (off b H) H H') v d) : Da (off b H') v d := x.same (plus_off h s)
end VK

/-! VKit2: how deep and how long data are, as repr shows them -/
namespace VK
open PySem PySem.Spec PyProof.Rows L2
def lowS (x : Str) : Bool := x.cps.toList.all fun c => decide (c < 128)
theorem low_app {x y : Str} (hx : lowS x = true) (hy : lowS y = true) : lowS (x ++ y) = true := by
  unfold lowS at *
  rw [show (x ++ y).cps = x.cps ++ y.cps from rfl, Array.toList_append, List.all_append, hx, hy]
  rfl
theorem low_join {sep : Str} (hs : lowS sep = true) : ∀ {ts : List Str}, ts.all lowS = true → lowS (Str.join sep ts) = true
  | [], _ => rfl
  | [x], h => by
    have z : (lowS x && true) = true := h
    rw [Bool.and_true] at z
    exact z
  | x :: y :: r, h => by
    rw [List.all_cons, Bool.and_eq_true] at h
    exact low_app (low_app h.1 hs) (low_join hs h.2)
theorem low_tup {ts : List Str} (h : ts.all lowS = true) : lowS (tupleText ts) = true := by
  unfold tupleText
  refine low_app (low_app rfl (low_join rfl h)) ?_
  by_cases z : (ts.length == 1) = true
  · rw [if_pos z]
    rfl
  · rw [if_neg z]
    rfl
theorem len_tup : ∀ ts : List Str, (tupleText ts).length ≤ (ts.map fun t => t.length + 2).sum + 3 := by
  intro ts
  have j : ∀ ts : List Str, (Str.join ", " ts).length ≤ (ts.map fun t => t.length + 2).sum := by
    intro ts
    induction ts with
    | nil => exact Nat.zero_le _
    | cons x r ih =>
      cases r with
      | nil =>
        show x.length ≤ x.length + 2 + 0
        omega
      | cons y r =>
        rw [List.map_cons, List.sum_cons]
        show (x ++ ", " ++ Str.join ", " (y :: r)).length ≤ _
        rw [strLen_append, strLen_append]
        have e2 : ((", " : String) : Str).length = 2 := rfl
        rw [e2]
        omega
  unfold tupleText
  rw [strLen_append, strLen_append]
  have e1 : (("(" : String) : Str).length = 1 := rfl
  have := j ts
  by_cases z : (ts.length == 1) = true
  · rw [if_pos z, e1]
    have e2 : ((",)" : String) : Str).length = 2 := rfl
    rw [e2]
    omega
  · rw [if_neg z, e1]
    have e2 : ((")" : String) : Str).length = 1 := rfl
    rw [e2]
    omega
theorem len_tup3 (x y z : Str) : (tupleText [x, y, z]).length = x.length + y.length + z.length + 6 := by
  show (("(" : Str) ++ (x ++ ", " ++ (y ++ ", " ++ z)) ++ ")").length = _
  rw [strLen_append, strLen_append, strLen_append, strLen_append, strLen_append, strLen_append]
  have e1 : (("(" : String) : Str).length = 1 := rfl
  have e2 : ((")" : String) : Str).length = 1 := rfl
  have e3 : ((", " : String) : Str).length = 2 := rfl
  rw [e1, e2, e3]
  omega
theorem len_from : ∀ (ts : List Str) (k : Nat) (acc : Str), (textFrom k acc ts).length ≤ acc.length + (ts.map fun t => t.length + 2).sum
  | [], k, acc => Nat.le_refl _
  | t :: r, k, acc => by
    have h := len_from r (k + 1) (acc ++ (if k > 0 then ", " else "" : String) ++ t)
    have e : (acc ++ (if k > 0 then ", " else "" : String) ++ t).length ≤ acc.length + 2 + t.length := by
      rw [strLen_append, strLen_append]
      by_cases z : k > 0
      · rw [if_pos z]
        exact Nat.le_refl _
      · rw [if_neg z]
        have e0 : (("" : String) : Str).length = 0 := rfl
        rw [e0]
        omega
    rw [List.map_cons, List.sum_cons]
    show (textFrom (k + 1) (acc ++ (if k > 0 then ", " else "" : String) ++ t) r).length ≤ _
    omega
theorem len_lst (ts : List Str) : (listText ts).length ≤ (ts.map fun t => t.length + 2).sum + 2 := by
  unfold listText
  rw [strLen_append]
  have h := len_from ts 0 "["
  have e1 : (("[" : String) : Str).length = 1 := rfl
  have e2 : (("]" : String) : Str).length = 1 := rfl
  rw [e1] at h
  rw [e2]
  omega
def FitB (h L : Nat) (d : PyData) : Bool := d.showable && (decide (d.depth ≤ h) && (decide (d.shown.length ≤ L) && lowS d.shown))
structure Fit (h L : Nat) (d : PyData) : Prop where
  sh : d.showable = true
  dp : d.depth ≤ h
  ln : d.shown.length ≤ L
  lo : lowS d.shown = true
theorem fit_of {h L : Nat} {d : PyData} (z : FitB h L d = true) : Fit h L d := by
  unfold FitB at z
  rw [Bool.and_eq_true, Bool.and_eq_true, Bool.and_eq_true] at z
  exact ⟨z.1, of_decide_eq_true z.2.1, of_decide_eq_true z.2.2.1, z.2.2.2⟩
theorem fit_all {h L : Nat} {ds : List PyData} (z : ds.all (FitB h L) = true) : ∀ d ∈ ds, Fit h L d := fun d hd => fit_of (List.all_eq_true.mp z d hd)
theorem Fit.mono {h L h' L' : Nat} {d : PyData} (z : Fit h L d) (a : h ≤ h') (b : L ≤ L') : Fit h' L' d := ⟨z.sh, Nat.le_trans z.dp a, Nat.le_trans z.ln b, z.lo⟩
theorem fit_small : ∀ n : Nat, n < 100 → FitB 0 2 (.int n) = true := by decide +kernel
theorem fit_int {i : Int} (h0 : 0 ≤ i) (h1 : i < 100) : Fit 0 2 (.int i) := by
  have z := fit_small i.toNat (by omega)
  rw [show ((i.toNat : Nat) : Int) = i by omega] at z
  exact fit_of z
theorem Fit.tup3 {h L1 L2 L3 : Nat} {a b c : PyData} (x : Fit h L1 a) (y : Fit h L2 b) (z : Fit h L3 c) : Fit (h + 1) (L1 + L2 + L3 + 6) (.tuple [a, b, c]) := by
  refine ⟨?_, ?_, ?_, ?_⟩
  · simp only [PyData.showable, PyData.showableAll, x.sh, y.sh, z.sh, Bool.and_self]
  · have h1 := x.dp
    have h2 := y.dp
    have h3 := z.dp
    simp only [PyData.depth, PyData.depthAll]
    omega
  · have h1 := x.ln
    have h2 := y.ln
    have h3 := z.ln
    simp only [PyData.shown, PyData.shownAll]
    rw [len_tup3]
    omega
  · simp only [PyData.shown, PyData.shownAll]
    refine low_tup ?_
    rw [List.all_cons, List.all_cons, List.all_cons, x.lo, y.lo, z.lo]
    rfl
theorem all_shown {h L : Nat} : ∀ {ds : List PyData}, (∀ d ∈ ds, Fit h L d) → PyData.showableAll ds = true ∧ PyData.depthAll ds ≤ h ∧ ((PyData.shownAll ds).map fun t => t.length + 2).sum ≤ ds.length * (L + 2) ∧ (PyData.shownAll ds).all lowS = true
  | [], _ => ⟨by simp only [PyData.showableAll], by simp only [PyData.depthAll]; exact Nat.zero_le _, by simp only [PyData.shownAll]; exact Nat.zero_le _, by simp only [PyData.shownAll]; rfl⟩
  | d :: ds, q => by
    have z := q d List.mem_cons_self
    obtain ⟨h1, h2, h3, h4⟩ := all_shown (ds := ds) fun e he => q e (List.mem_cons_of_mem _ he)
    have z1 := z.dp
    have z2 := z.ln
    refine ⟨by simp only [PyData.showableAll, z.sh, h1, Bool.and_self], by simp only [PyData.depthAll]; omega, ?_, by simp only [PyData.shownAll, List.all_cons, z.lo, h4, Bool.and_self]⟩
    simp only [PyData.shownAll, List.map_cons, List.sum_cons, List.length_cons]
    rw [Nat.succ_mul]
    omega
theorem Fit.tupAll {h L : Nat} {ds : List PyData} (q : ∀ d ∈ ds, Fit h L d) : Fit (h + 1) (ds.length * (L + 2) + 3) (.tuple ds) := by
  obtain ⟨h1, h2, h3, h4⟩ := all_shown q
  refine ⟨by simp only [PyData.showable]; exact h1, by simp only [PyData.depth]; omega, ?_, by simp only [PyData.shown]; exact low_tup h4⟩
  simp only [PyData.shown]
  have := len_tup (PyData.shownAll ds)
  omega
theorem low_from : ∀ (ts : List Str) (k : Nat) (acc : Str), lowS acc = true → ts.all lowS = true → lowS (textFrom k acc ts) = true
  | [], _, _, h, _ => h
  | t :: r, k, acc, h, q => by
    rw [List.all_cons, Bool.and_eq_true] at q
    refine low_from r (k + 1) _ (low_app (low_app h ?_) q.1) q.2
    by_cases z : k > 0
    · rw [if_pos z]
      rfl
    · rw [if_neg z]
      rfl
theorem Fit.lstAll {h L : Nat} {ds : List PyData} (q : ∀ d ∈ ds, Fit h L d) : Fit (h + 1) (ds.length * (L + 2) + 2) (.list ds) := by
  obtain ⟨h1, h2, h3, h4⟩ := all_shown q
  refine ⟨by simp only [PyData.showable]; exact h1, by simp only [PyData.depth]; omega, ?_, by simp only [PyData.shown]; exact low_app (low_from _ 0 _ rfl h4) rfl⟩
  simp only [PyData.shown]
  have := len_lst (PyData.shownAll ds)
  omega
/-- what repr of a list with texts in it asks: no look at the signs that it shows -/
structure Fit0 (h L : Nat) (d : PyData) : Prop where
  sh : d.showable = true
  dp : d.depth ≤ h
  ln : d.shown.length ≤ L
theorem Fit.to0 {h L : Nat} {d : PyData} (z : Fit h L d) : Fit0 h L d := ⟨z.sh, z.dp, z.ln⟩
theorem Fit0.mono {h L h' L' : Nat} {d : PyData} (z : Fit0 h L d) (a : h ≤ h') (b : L ≤ L') : Fit0 h' L' d := ⟨z.sh, Nat.le_trans z.dp a, Nat.le_trans z.ln b⟩
theorem fit0_str {x : Str} {L : Nat} (h : lowS x = true) (z : x.length ≤ L) : Fit0 0 (10 * L + 2) (.str x) := by
  refine ⟨by simp only [PyData.showable], by simp only [PyData.depth]; exact Nat.le_refl _, ?_⟩
  simp only [PyData.shown]
  have q := StrLaws.reprText_len x fun c hc => by
    have z := of_decide_eq_true (List.all_eq_true.mp h c hc)
    exact Nat.lt_trans z (by decide)
  omega
theorem Fit0.lstAll {h L : Nat} : ∀ {ds : List PyData}, (∀ d ∈ ds, Fit0 h L d) → Fit0 (h + 1) (ds.length * (L + 2) + 2) (.list ds) := by
  intro ds q
  have r : PyData.showableAll ds = true ∧ PyData.depthAll ds ≤ h ∧ ((PyData.shownAll ds).map fun t => t.length + 2).sum ≤ ds.length * (L + 2) := by
    induction ds with
    | nil => exact ⟨by simp only [PyData.showableAll], by simp only [PyData.depthAll]; exact Nat.zero_le _, by simp only [PyData.shownAll]; exact Nat.zero_le _⟩
    | cons d ds ih =>
      have z := q d List.mem_cons_self
      obtain ⟨h1, h2, h3⟩ := ih fun e he => q e (List.mem_cons_of_mem _ he)
      have z1 := z.dp
      have z2 := z.ln
      refine ⟨by simp only [PyData.showableAll, z.sh, h1, Bool.and_self], by simp only [PyData.depthAll]; omega, ?_⟩
      simp only [PyData.shownAll, List.map_cons, List.sum_cons, List.length_cons]
      rw [Nat.succ_mul]
      omega
  refine ⟨by simp only [PyData.showable]; exact r.1, by simp only [PyData.depth]; omega, ?_⟩
  simp only [PyData.shown]
  have := len_lst (PyData.shownAll ds)
  omega
end VK
namespace VK
open PySem PySem.Spec PyProof.Rows L2
theorem low_split {x y : Str} (h : lowS (x ++ y) = true) : lowS x = true ∧ lowS y = true := by
  unfold lowS at *
  rw [show (x ++ y).cps = x.cps ++ y.cps from rfl, Array.toList_append, List.all_append, Bool.and_eq_true] at h
  exact h
theorem Fit.parts {h L : Nat} {a b c : PyData} (f : Fit h L (.tuple [a, b, c])) : Fit a.depth a.shown.length a ∧ Fit b.depth b.shown.length b ∧ Fit c.depth c.shown.length c := by
  have sh := f.sh
  simp only [PyData.showable, PyData.showableAll, Bool.and_true, Bool.and_eq_true] at sh
  have lo := f.lo
  simp only [PyData.shown, PyData.shownAll] at lo
  have lo2 : lowS (("(" : Str) ++ (a.shown ++ ", " ++ (b.shown ++ ", " ++ c.shown)) ++ ")") = true := lo
  have l1 := (low_split (low_split lo2).1).2
  have l2 := (low_split (low_split l1).1).1
  have l3 := (low_split l1).2
  exact ⟨⟨sh.1, Nat.le_refl _, Nat.le_refl _, l2⟩, ⟨sh.2.1, Nat.le_refl _, Nat.le_refl _, (low_split (low_split l3).1).1⟩, ⟨sh.2.2, Nat.le_refl _, Nat.le_refl _, (low_split l3).2⟩⟩
end VK

/-! VKit3: a call that does not see one list of the caller's -/
namespace VK
open PySem PySem.Spec PyProof.Rows L2
section
variable {X : Cx} {pins : List (Addr × Obj)} {σ : L2.St} {H H' : Hp} {s s' : Shared} {D : Addr} {acc : List V}
theorem Inv.hide (I : Inv X pins σ H s) (hD : H D = some (.lst acc)) : Inv X pins σ (off D H) s := by
  have low : ∀ b, H b = none → off D H b = none := fun b e => by
    unfold off
    by_cases z : b = D
    · rw [if_pos z]
    · rw [if_neg z]
      exact e
  have ne : ∀ {b o}, H b = some o → o ≠ .lst acc → b ≠ D := fun e n z => by
    rw [z, hD] at e
    exact n (Option.some.inj e).symm
  refine ⟨I.ok, I.os, I.bare, ⟨I.base.keep, I.base.slot, ?_, I.base.there, ?_, ?_, ?_⟩, I.loc, I.cell, low _ I.free, fun x c e => low _ (I.freeC x c e), fun p hp => ?_, fun b o e => ?_, I.len⟩
  · exact fun b o e n hx => low _ (I.base.free b o e n hx)
  · exact fun b xs e => off_put (ne (I.base.tups b xs e) (fun z => nomatch z)) (I.base.tups b xs e)
  · exact fun b o u e => off_put (ne (I.base.frzs b o u e) (fun z => nomatch z)) (I.base.frzs b o u e)
  · intro b ps e
    obtain ⟨m, em⟩ := I.base.tbls b ps e
    exact ⟨m, off_put (ne em (fun z => nomatch z)) em⟩
  · obtain ⟨e, n, r⟩ := I.pin p hp
    exact ⟨e, low _ n, r⟩
  · obtain ⟨nb, e⟩ := off_get e
    refine (I.hok b o e).stay (fun c u _ q => q) (fun c q => off_put (ne q (fun z => nomatch z)) q) fun c xs q => off_put (ne q (fun z => nomatch z)) q
theorem Inv.show (I : Inv X pins σ H s) (hD : H D = some (.lst acc)) (J : Inv X pins σ H' s') (hn : H' D = none) (k : ∀ o, s.heap.get? D = some o → s'.heap.get? D = some o) : Inv X pins σ (upd H' D (.lst acc)) s' := by
  have ne0 : ∀ {b : Addr}, H b = none → b ≠ D := fun e z => by
    rw [z, hD] at e
    cases e
  refine ⟨J.ok, J.os, J.bare, ⟨J.base.keep, J.base.slot, ?_, J.base.there, ?_, ?_, ?_⟩, J.loc, J.cell, ?_, fun x c e => ?_, fun p hp => ?_, fun b o e => ?_, J.len⟩
  · intro b o e n hx
    rw [upd_ne (ne0 (I.base.free b o e n hx))]
    exact J.base.free b o e n hx
  · intro b xs e
    have z := J.base.tups b xs e
    rw [upd_ne (ne_of_none z hn)]
    exact z
  · intro b o u e
    have z := J.base.frzs b o u e
    rw [upd_ne (ne_of_none z hn)]
    exact z
  · intro b ps e
    obtain ⟨m, z⟩ := J.base.tbls b ps e
    exact ⟨m, by rw [upd_ne (ne_of_none z hn)]; exact z⟩
  · rw [upd_ne (ne0 I.free)]
    exact J.free
  · rw [upd_ne (ne0 (I.freeC x c e))]
    exact J.freeC x c e
  · obtain ⟨e, n, r⟩ := J.pin p hp
    obtain ⟨_, n2, _⟩ := I.pin p hp
    exact ⟨e, by rw [upd_ne (ne0 n2)]; exact n, r⟩
  · by_cases z : b = D
    · subst z
      rw [upd_same] at e
      cases e
      obtain ⟨a1, its, n, a2, a3⟩ := I.hok b _ hD
      exact ⟨a1, its, n, a2, k _ a3⟩
    · rw [upd_ne z] at e
      refine (J.hok b o e).stay (fun c u _ q => q) (fun c q => ?_) fun c xs q => ?_
      · rw [upd_ne (ne_of_none q hn)]
        exact q
      · rw [upd_ne (ne_of_none q hn)]
        exact q
end
def tCallF (sp : Sp) (t : TA) : TE := fun σ H Q => t σ H fun vs H1 => ∃ D acc, H1 D = some (.lst acc) ∧ sp vs (off D H1) (fun v H2 => H2 D = none → Q v (upd H2 D (.lst acc))) E0
theorem pe_cgF {X : Cx} {k j : Nat} {x : Str} {p pos : Pos} {e : Expr} {es : List Expr} {t : TA} {sp : Sp} (c : CalG X.prog X.w X.K X.mg X.base k x sp) (hga : X.A.guards = some []) (room : Room j X.A) (hk : k ≤ j) (gl : Gl X x)
    (args : PA X (e :: es) t) (nd : (x == ("__debug__" : Str)) = false := by decide) (st : starEach (e :: es) X.env = (false, eval e X.env) :: starEach es X.env := by rfl) (pl : (backTo pos (starEach es X.env)).any (·.1) = false := by rfl) :
    PE X (.Call (.Name x p) (e :: es) [] pos) (tCallF sp t) := by
  obtain ⟨f, fd, ps, F, m, kp, b⟩ := c.ex
  constructor
  intro pins s σ H Q I h
  refine wpAny_Call_Name_kw (ld_glob I gl m ?_ nd)
  refine PySem.W.callWith_K (h₀ := X.base) I.ok.mod.kin kp (thn (args.run pos pins s σ H _ I h) ?_) st pl
  intro us s1 ⟨vs, H1, I1, r, D, acc, hD, q⟩
  refine ⟨I1.kIn, ?_⟩
  have J1 := Inv.hide I1 hD
  have rel : Vals (vs ++ []) (us ++ []) := r.append .nil
  have q' : sp (vs ++ []) (off D H1) (fun v H2 => H2 D = none → Q v (upd H2 D (.lst acc))) E0 := by
    rw [List.append_nil]
    exact q
  have hl : (us ++ []).length = ps.length := rel.length.symm.trans (F.args _ _ _ _ q')
  refine wpAny_call (codeAny_mono (F.go hga (room.mono hk) J1.env0 (b s1 us J1.kIn hl) rel q') ?_)
  intro r' s' hq
  match r', hq with
  | .error e, hq => exact hq.elim
  | .ok .next, hq => exact hq.elim
  | .ok .brk, hq => exact hq.elim
  | .ok .cont, hq => exact hq.elim
  | .ok (.ret u), hq =>
    have hq' := hq
    obtain ⟨v, H2, os, bare, un, hok, rv, qq⟩ := hq'
    have offD : off D H1 D = none := by
      unfold off
      rw [if_pos rfl]
    obtain ⟨a1, its, n, a2, a3⟩ := I1.hok D _ hD
    have notfr : D ∉ frs X.stack := fun z => by
      have e0 := I1.stkFree D z
      rw [hD] at e0
      cases e0
    have kD : s'.heap.get? D = some { cls := .type "list", data := .seq its.toArray n } := un.keep D _ a3 offD notfr (fun z => nomatch z)
    have hn : H2 D = none := un.free D _ a3 offD (fun z => nomatch z)
    obtain ⟨v', H2', J2, rv', q2⟩ := J1.after (Q := fun v' H' => v' = v ∧ H' = H2) ⟨v, H2, os, bare, un, hok, rv, rfl, rfl⟩
    obtain ⟨rfl, rfl⟩ := q2
    refine ⟨v', upd H2' D (.lst acc), Inv.show I1 hD J2 hn (fun o e => ?_), rv', qq hn⟩
    rw [a3] at e
    rw [← Option.some.inj e]
    exact kD
end VK

namespace K01
open PySem L2 VK
def top (i : Nat) : Stmt := PySem.Challenge.pw_solvedbothsides_k01_formulas_judged.main.body.getD i (.Pass ⟨0, 0, 0, 0⟩)
/-! ### the mathematics: formulas as data -/
def isWord (x : Str) : Bool := inV (.str x) [.str "with", .str "behind", .str "ahead"]
def isW : PyData → Bool
  | .int _ => true
  | _ => false
def isTn (m : Int) : PyData → Bool
  | .tuple ds => decide ((ds.length : Int) = m)
  | _ => false
def partsD : PyData → List PyData
  | .tuple [a, b, c] => .tuple [a, b, c] :: (partsD b ++ partsD c)
  | d => [d]
def headErr : PyData → Option Str
  | .str x => if isWord x = true then none else some "word"
  | _ => some "word"
def partErr (n : Int) : PyData → Option Str
  | .int i => if 0 ≤ i ∧ i < n then none else some "name"
  | .tuple [w, _, _] => headErr w
  | _ => some "formula"
def wordD (n : Int) : PyData → Option Str
  | .tuple [w, a, b] => match headErr w with
    | some x => some x
    | none => match wordD n a with
      | some x => some x
      | none => wordD n b
  | d => partErr n d
def countD : PyData → Nat
  | .tuple [_, a, b] => 1 + countD a + countD b
  | _ => 1
theorem part_trip (n : Int) (a b c : PyData) : partErr n (.tuple [a, b, c]) = headErr a := by rw [partErr]
theorem first_word (n : Int) : ∀ d : PyData, (partsD d).findSome? (partErr n) = wordD n d := by
  intro d
  induction d using partsD.induct with
  | case1 a b c ih1 ih2 =>
    rw [partsD, wordD, List.findSome?_cons, List.findSome?_append, ih1, ih2, part_trip]
    cases headErr a with
    | some x => rfl
    | none => cases wordD n b <;> rfl
  | case2 d h =>
    have e1 : partsD d = [d] := by
      rw [partsD]
      intro a b c e
      exact h a b c e
    have e2 : wordD n d = partErr n d := by
      rw [wordD]
      intro w a b e
      exact h w a b e
    rw [e1, e2, List.findSome?_cons]
    cases partErr n d <;> rfl
theorem count_parts (n : Int) : ∀ d : PyData, wordD n d = none → (partsD d).length = countD d := by
  intro d
  induction d using partsD.induct with
  | case1 a b c ih1 ih2 =>
    rw [partsD, wordD, countD]
    cases headErr a with
    | some x => intro h; cases h
    | none =>
      cases hb : wordD n b with
      | some x => intro h; cases h
      | none =>
        intro h
        rw [List.length_cons, List.length_append, ih1 hb, ih2 h]
        omega
  | case2 d h =>
    intro _
    have e1 : partsD d = [d] := by
      rw [partsD]
      intro a b c e
      exact h a b c e
    have e2 : countD d = 1 := by
      rw [countD]
      intro w a b e
      exact h w a b e
    rw [e1, e2]
    rfl
def optV : Option Str → V
  | none => .non
  | some x => .str x
def errD (n : Int) (d : PyData) : Option Str := match wordD n d with
  | some x => some x
  | none => if (15 : Int) < ((partsD d).length : Nat) then some "size" else none
end K01

namespace K01
open PySem L2 VK
/-! ### the program's defs -/
abbrev s_is_whole : Stmt := top 2
abbrev s_is_tuple : Stmt := top 3
abbrev s_size : Stmt := top 6
abbrev s_formula_error : Stmt := top 7
abbrev s_parts : Stmt := top 8
abbrev s_part_error : Stmt := top 9
def spWhole : Sp := fun vs H Q _ => ∃ v d, vs = [v] ∧ Da H v d ∧ Q (.bl (isW d)) H
def spTuple : Sp := fun vs H Q _ => ∃ v d m, vs = [v, .int m] ∧ Da H v d ∧ Q (.bl (isTn m d)) H
def spPartErr : Sp := fun vs H Q _ => ∃ v d n, vs = [.int n, v] ∧ Da H v d ∧ Q (optV (partErr n d)) H
def spParts : Sp := fun vs H Q _ => ∃ v d, vs = [v] ∧ Da H v d ∧ (partsD d).length ≤ 10000 ∧ ∀ p xs H', Same H H' → H' p = some (.lst xs) → DaAll H' xs (partsD d) → Q (.ref p) H'
def spSize : Sp := fun vs H Q _ => ∃ v d, vs = [v] ∧ Da H v d ∧ (partsD d).length ≤ 10000 ∧ ∀ H', Same H H' → Q (.int ((partsD d).length : Nat)) H'
def spErr : Sp := fun vs H Q _ => ∃ v d n, vs = [.int n, v] ∧ Da H v d ∧ (partsD d).length ≤ 10000 ∧ ∀ H', Same H H' → Q (optV (errD n d)) H'
theorem sc1 : FnScope ["value"] ["value"] (defScope s_is_whole) := ⟨rfl, rfl, rfl, by decide +kernel, rfl, by decide +kernel, by decide +kernel⟩
theorem sc2 : FnScope ["value", "many"] ["value", "many"] (defScope s_is_tuple) := ⟨rfl, rfl, rfl, by decide +kernel, rfl, by decide +kernel, by decide +kernel⟩
theorem sc3 : FnScope ["names", "part", "word"] ["names", "part"] (defScope s_part_error) := ⟨rfl, rfl, rfl, by decide +kernel, rfl, by decide +kernel, by decide +kernel⟩
theorem sc4 : FnScope ["value", "found", "waiting", "part"] ["value"] (defScope s_parts) := ⟨rfl, rfl, rfl, by decide +kernel, rfl, by decide +kernel, by decide +kernel⟩
theorem sc5 : FnScope ["formula"] ["formula"] (defScope s_size) := ⟨rfl, rfl, rfl, by decide +kernel, rfl, by decide +kernel, by decide +kernel⟩
theorem sc6 : FnScope ["names", "value", "found", "part", "word"] ["names", "value"] (defScope s_formula_error) := ⟨rfl, rfl, rfl, by decide +kernel, rfl, by decide +kernel, by decide +kernel⟩
section
variable {P : Program} {w : World} {K : PySem.W.Frag} {mg : Str → Option Value} {base : Heap}
theorem ok_is_whole (D : DefAt K mg "is_whole" s_is_whole ["value"]) (b_isinstance : mg "isinstance" = none) (b_int : mg "int" = none) (b_bool : mg "bool" = none) : CalG P w K mg base 1 "is_whole" spWhole := by
  have sc := sc1
  refine def_ok D sc (fun vs H Q E h => ?_) fun f cdv A outer s H vs Q E gA hr h => ?_
  · obtain ⟨v, d, rfl, _⟩ := h
    rfl
  obtain ⟨v, d, rfl, hd, q⟩ := h
  refine ⟨_, (pss_one (ps_ret (pe_and (pe_callB (call_isD) (by rfl) b_isinstance (by decide +kernel) (pa_cons (pv 0) (pa_cons (pe_bltn (v := .ty "int") (by rfl) b_int (by decide +kernel) rfl) pa_nil))) (pe_one (pe_not (pe_callB (call_isD) (by rfl) b_isinstance (by decide +kernel) (pa_cons (pv 0) (pa_cons (pe_bltn (v := .ty "bool") (by rfl) b_bool (by decide +kernel) rfl) pa_nil)))))))), ?_⟩
  refine ⟨_, rfl, v, d, _, _, rfl, hd, kit_int d, _, rfl, ?_⟩
  have q' : Q (.bl (isW d)) H := q
  refine ite2 (fun c => ?_) (fun c => ?_)
  · refine ⟨_, rfl, v, d, _, _, rfl, hd, kit_bool d, _, rfl, ?_⟩
    have e : (!isBo d) = isW d := by cases d <;> first | rfl | cases c
    rw [e]
    exact q
  · have e : false = isW d := by cases d <;> first | rfl | exact (c rfl).elim
    rw [e]
    exact q
theorem ok_is_tuple (D : DefAt K mg "is_tuple" s_is_tuple ["value", "many"]) (b_isinstance : mg "isinstance" = none) (b_tuple : mg "tuple" = none) (b_len : mg "len" = none) : CalG P w K mg base 1 "is_tuple" spTuple := by
  have sc := sc2
  refine def_ok D sc (fun vs H Q E h => ?_) fun f cdv A outer s H vs Q E gA hr h => ?_
  · obtain ⟨v, d, m, rfl, _⟩ := h
    rfl
  obtain ⟨v, d, m, rfl, hd, q⟩ := h
  refine ⟨_, (pss_one (ps_ret (pe_and (pe_callB (call_isD) (by rfl) b_isinstance (by decide +kernel) (pa_cons (pv 0) (pa_cons (pe_bltn (v := .ty "tuple") (by rfl) b_tuple (by decide +kernel) rfl) pa_nil))) (pe_one (pe_cmpR op_eq (pe_callB (call_len_seq) (by rfl) b_len PySem.boot_len (pa_cons (pv 0) pa_nil)) (pv 1) (nomark _)))))), ?_⟩
  refine ⟨_, rfl, v, d, _, _, rfl, hd, kit_tuple d, _, rfl, ?_⟩
  refine ite2 (fun c => ?_) (fun c => ?_)
  · cases d <;> try (cases c)
    rename_i ds
    obtain ⟨a, xs, rfl, ha, hx⟩ := hd.tup_inv
    refine ⟨_, rfl, a, xs, rfl, .inr (SqT.of ha), _, rfl, rfl, ?_⟩
    have q' : Q (.bl (decide ((ds.length : Int) = m))) H := q
    have e : decide (V.int ((xs.length : Nat) : Int) = V.int m) = decide ((ds.length : Int) = m) := by
      rw [hx.length]
      by_cases z : (ds.length : Int) = m
      · rw [z, decide_eq_true rfl, decide_eq_true rfl]
      · rw [decide_eq_false z, decide_eq_false (fun y => z (V.int.inj y))]
    show Q (.bl (decide (V.int ((xs.length : Nat) : Int) = V.int m))) H
    rw [e]
    exact q'
  · have e : false = isTn m d := by cases d <;> first | rfl | exact (c rfl).elim
    show Q (.bl false) H
    rw [e]
    exact q
theorem isTn3 {d : PyData} (h : isTn 3 d = true) : ∃ a b c, d = .tuple [a, b, c] := by
  cases d with
  | tuple ds =>
    have e : (ds.length : Int) = 3 := of_decide_eq_true h
    match ds, e with
    | [a, b, c], _ => exact ⟨a, b, c, rfl⟩
    | [], e => simp at e
    | [_], e => simp at e
    | [_, _], e => simp at e
    | _ :: _ :: _ :: _ :: r, e => simp only [List.length_cons] at e; omega
  | _ => cases h
theorem not3 {n : Int} {d : PyData} (h : ¬ isTn 3 d = true) (h' : ¬ isW d = true) : partErr n d = some ("formula" : Str) := by
  rw [partErr]
  · intro i e
    rw [e] at h'
    exact h' rfl
  · intro a b c e
    rw [e] at h
    exact h rfl
theorem not3p {d : PyData} (h : ¬ isTn 3 d = true) : partsD d = [d] := by
  rw [partsD]
  intro a b c e
  rw [e] at h
  exact h rfl
def wordsV : List V := [.str "with", .str "behind", .str "ahead"]
theorem ok_part_error (D : DefAt K mg "part_error" s_part_error ["names", "part"]) (c_is_whole : CalG P w K mg base 1 "is_whole" spWhole) (c_is_tuple : CalG P w K mg base 1 "is_tuple" spTuple) (b_isinstance : mg "isinstance" = none) (b_str : mg "str" = none)
    {aw : Addr} (g_WORDS : mg "WORDS" = some (.ref aw)) (hW : ∀ H, SqT K H aw wordsV) : CalG P w K mg base 2 "part_error" spPartErr := by
  have sc := sc3
  have r_WORDS : RelV (.ref aw) (.ref aw) := rfl
  refine def_ok D sc (fun vs H Q E h => ?_) fun f cdv A outer s H vs Q E gA hr h => ?_
  · obtain ⟨v, d, m, rfl, _⟩ := h
    rfl
  obtain ⟨v, d, n, rfl, hd, q⟩ := h
  refine ⟨_, (pss_cons (ps_if (pt_val (pe_cg c_is_whole gA hr (by omega) (by rfl) (pa_cons (pv 1) pa_nil))) (pss_one (ps_ret (pe_ifExp (pt_chain op_le op_lt pe_int (pv 1) (pv 0)) pe_non pe_str))) pss_nil)
    (pss_cons (ps_if (pt_not (pt_val (pe_cg c_is_tuple gA hr (by omega) (by rfl) (pa_cons (pv 1) (pa_cons pe_int pa_nil))))) (pss_one (ps_ret pe_str)) pss_nil)
    (pss_cons (ps_set (i := 2) sc.nd rfl (.inl rfl) (pe_ix ix_tup (pv 1) pe_int (fun _ _ => rfl)))
    (pss_one (ps_ret (pe_ifExp (PW.pt (pw_and (pt_val (pe_callB (call_isD) (by rfl) b_isinstance (by decide +kernel) (pa_cons (pv 2) (pa_cons (pe_bltn (v := .ty "str") (by rfl) b_str (by decide +kernel) rfl) pa_nil)))) (pw_and1 (pt_cmpR op_in_seq (pv 2) (pe_glob rfl g_WORDS r_WORDS) rfl)))) pe_non pe_str)))))), ?_⟩
  refine ⟨_, rfl, v, d, rfl, hd, _, rfl, ?_⟩
  refine ite2 (fun c => ?_) (fun c => ?_)
  · cases d <;> try (cases c)
    rename_i i
    obtain rfl := hd.int_inv
    refine ⟨_, rfl, _, _, rfl, rfl, _, rfl, ?_⟩
    refine ite2 (fun c1 => ?_) (fun c1 => ?_)
    · refine ⟨_, rfl, _, _, rfl, rfl, _, rfl, ?_⟩
      refine ite2 (fun c2 => ?_) (fun c2 => ?_)
      · have e : partErr n (.int i) = none := by rw [partErr, if_pos ⟨of_decide_eq_true c1, of_decide_eq_true c2⟩]
        rw [e] at q
        exact q
      · have e : partErr n (.int i) = some ("name" : Str) := by rw [partErr, if_neg (fun z => c2 (decide_eq_true z.2))]
        rw [e] at q
        exact q
    · refine ⟨_, rfl, ?_⟩
      refine iteF ?_
      have e : partErr n (.int i) = some ("name" : Str) := by rw [partErr, if_neg (fun z => c1 (decide_eq_true z.1))]
      rw [e] at q
      exact q
  · refine ⟨_, rfl, v, d, 3, rfl, hd, _, rfl, ?_⟩
    refine ite2 (fun c2 => ?_) (fun c2 => ?_)
    · rw [not3 (n := n) (by simpa using c2) c] at q
      exact q
    · obtain ⟨a, b, c', rfl⟩ := isTn3 (d := d) (by simpa using c2)
      obtain ⟨p, xs, rfl, hp, hx⟩ := hd.tup_inv
      obtain ⟨x0, hx0, hd0⟩ := hx.get (i := 0) rfl
      refine ⟨_, rfl, p, xs, 0, x0, rfl, rfl, SqT.of hp, atI_nat (j := 0) hx0, ?_⟩
      refine ⟨_, rfl, x0, a, _, _, rfl, hd0, kit_str a, _, rfl, ?_⟩
      rw [part_trip] at q
      refine ite2 (fun c3 => ?_) (fun c3 => ?_)
      · cases a <;> try (cases c3)
        rename_i z
        obtain rfl := hd0.str_inv
        refine ⟨_, rfl, aw, wordsV, rfl, .inr (hW _), rfl, rfl, _, rfl, ?_⟩
        refine ite2 (fun c4 => ?_) (fun c4 => ?_)
        · have e : headErr (.str z) = none := if_pos c4
          rw [e] at q
          exact q
        · have e : headErr (.str z) = some ("word" : Str) := if_neg c4
          rw [e] at q
          exact q
      · refine iteF ?_
        have e : headErr a = some ("word" : Str) := by cases a <;> first | rfl | exact (c3 rfl).elim
        rw [e] at q
        exact q
end
end K01

namespace K01
open PySem L2 VK
theorem parts_pos (d : PyData) : 1 ≤ (partsD d).length := by
  by_cases h : isTn 3 d = true
  · obtain ⟨a, b, c, rfl⟩ := isTn3 h
    rw [partsD, List.length_cons]
    omega
  · rw [not3p h]
    exact Nat.le_refl _
theorem flat_le : ∀ ds : List PyData, ds.length ≤ (ds.flatMap partsD).length
  | [] => Nat.le_refl _
  | d :: ds => by
    have h1 := parts_pos d
    have h2 := flat_le ds
    rw [List.flatMap_cons, List.length_append, List.length_cons]
    omega
theorem small4 {n : Nat} (h : n ≤ 10010) : n < sizeLine := Nat.lt_of_le_of_lt h (by decide)
section
variable {P : Program} {w : World} {K : PySem.W.Frag} {mg : Str → Option Value} {base : Heap}
theorem ok_parts (D : DefAt K mg "parts" s_parts ["value"]) (c_is_tuple : CalG P w K mg base 1 "is_tuple" spTuple) : CalG P w K mg base 2 "parts" spParts := by
  have sc := sc4
  refine def_ok D sc (fun vs H Q E h => ?_) fun f cdv A outer s H vs Q E gA hr h => ?_
  · obtain ⟨v, d, rfl, _⟩ := h
    rfl
  obtain ⟨v, d, rfl, hd, hz, q⟩ := h
  refine ⟨_, (pss_cons (ps_set (i := 1) sc.nd rfl (.inl rfl) (pe_lst pa_nil))
    (pss_cons (ps_set (i := 2) sc.nd rfl (.inl rfl) (pe_lst (pa_cons (pv 0) pa_nil)))
    (pss_cons (ps_while PassesOwn.never (pt_truth (pv 2) (fun _ => rfl)) (pss_cons (ps_set (i := 3) sc.nd rfl (.inl rfl) (pe_bm0 PySem.F.plainAttrs_list PySem.F.slot_list_pop PySem.F.type_list_pop mt_pop (pv 2)))
    (pss_cons (ps_expr (pe_bm PySem.F.plainAttrs_list PySem.F.slot_list_append PySem.F.type_list_append mt_append (pv 1) (pa_cons (pv 3) pa_nil)))
    (pss_one (ps_if (pt_val (pe_cg c_is_tuple gA hr (by omega) (by rfl) (pa_cons (pv 3) (pa_cons pe_int pa_nil)))) (pss_cons (ps_expr (pe_bm PySem.F.plainAttrs_list PySem.F.slot_list_append PySem.F.type_list_append mt_append (pv 2) (pa_cons (pe_ix ix_tup (pv 3) pe_int (fun _ _ => rfl)) pa_nil)))
    (pss_one (ps_expr (pe_bm PySem.F.plainAttrs_list PySem.F.slot_list_append PySem.F.type_list_append mt_append (pv 2) (pa_cons (pe_ix ix_tup (pv 3) pe_int (fun _ _ => rfl)) pa_nil))))) pss_nil)))))
    (pss_one (ps_ret (pv 1)))))), ?_⟩
  refine ⟨Nat.zero_le _, fun pf npf => ?_⟩
  have s1 : Same H (upd H pf (.lst [])) := same_new npf
  refine ⟨_, rfl, (by show 1 ≤ sizeLine; decide), fun pw npw => ?_⟩
  have s2 : Same (upd H pf (.lst [])) (upd (upd H pf (.lst [])) pw (.lst [v])) := same_new npw
  have nfw : pf ≠ pw := fun e => by
    rw [← e, upd_same] at npw
    cases npw
  have npw0 : H pw = none := by
    rw [upd_ne (fun e => nfw e.symm)] at npw
    exact npw
  refine ⟨fun m σ Hc => ∃ (y : Option V) (fs rs : List V) (dfs drs : List PyData), σ = [some v, some (.ref pf), some (.ref pw), y] ∧ Same H Hc ∧ Hc pf = some (.lst fs) ∧ Hc pw = some (.lst rs.reverse) ∧
      DaAll H fs dfs ∧ DaAll H rs drs ∧ partsD d = dfs ++ drs.flatMap partsD ∧ m = (drs.flatMap partsD).length, ?_, ?_⟩
  · refine ⟨_, none, [], [v], [], [d], rfl, s1.trans s2, ?_, upd_same, .nil, .cons hd .nil, ?_, rfl⟩
    · rw [upd_ne nfw, upd_same]
    · rw [List.flatMap_cons, List.flatMap_nil, List.append_nil, List.nil_append]
  · rintro m σ Hc ⟨y, fs, rs, dfs, drs, rfl, sm, ef, ew, hf, hw, hp, rfl⟩
    refine ⟨_, rfl, !rs.reverse.isEmpty, .inl ⟨_, SqL.of ew, rfl⟩, ?_⟩
    have hl : dfs.length + (drs.flatMap partsD).length ≤ 10000 := by
      rw [hp, List.length_append] at hz
      exact hz
    cases hw with
    | nil =>
      refine iteF ?_
      rw [List.flatMap_nil, List.append_nil] at hp
      refine ⟨_, rfl, ?_⟩
      rw [← hp] at hf
      exact q pf fs Hc sm ef (hf.same sm)
    | @cons x r p dr hx hr' =>
      have e1 : (!(x :: r).reverse.isEmpty) = true := by simp
      rw [e1]
      refine iteT ?_
      refine ⟨fun σ' H' => ∃ m', m' < (List.flatMap partsD (p :: dr)).length ∧ ∃ (y : Option V) (fs rs : List V) (dfs drs : List PyData), σ' = [some v, some (.ref pf), some (.ref pw), y] ∧ Same H H' ∧ H' pf = some (.lst fs) ∧ H' pw = some (.lst rs.reverse) ∧
        DaAll H fs dfs ∧ DaAll H rs drs ∧ partsD d = dfs ++ drs.flatMap partsD ∧ m' = (drs.flatMap partsD).length, fun _ _ h => h, ?_⟩
      -- part = waiting.pop()
      have erev : (x :: r).reverse = r.reverse ++ [x] := List.reverse_cons
      rw [erev] at ew
      refine ⟨_, rfl, .inl ⟨rfl, _, SqL.of ew⟩, pw, _, x, rfl, rfl, ew, ?_, ?_⟩
      · rw [List.length_append, List.length_singleton, Nat.add_sub_cancel, List.getElem?_append_right (Nat.le_refl _), Nat.sub_self]
        rfl
      rw [List.dropLast_concat]
      have np : pf ≠ pw := nfw
      have eH1 : (upd Hc pw (.lst r.reverse)) pf = some (.lst fs) := by
        rw [upd_ne np]
        exact ef
      have sm1 : Same H (upd Hc pw (.lst r.reverse)) := fun b o e => by
        rw [upd_ne (ne_of_none e npw0)]
        exact sm _ _ e
      -- found.append(part)
      refine ⟨_, rfl, .inl ⟨rfl, _, SqL.of eH1⟩, x, rfl, pf, fs, x, rfl, rfl, eH1, ?_, ?_⟩
      · rw [hf.length]
        exact small4 (by omega)
      have sm2 : Same H (upd (upd Hc pw (.lst r.reverse)) pf (.lst (fs ++ [x]))) := fun b o e => by
        rw [upd_ne (ne_of_none e npf)]
        exact sm1 _ _ e
      have ew2 : (upd (upd Hc pw (.lst r.reverse)) pf (.lst (fs ++ [x]))) pw = some (.lst r.reverse) := by
        rw [upd_ne (fun e => np e.symm), upd_same]
      have ef2 : (upd (upd Hc pw (.lst r.reverse)) pf (.lst (fs ++ [x]))) pf = some (.lst (fs ++ [x])) := upd_same
      generalize upd (upd Hc pw (.lst r.reverse)) pf (.lst (fs ++ [x])) = H2 at sm2 ew2 ef2
      -- if is_tuple(part, 3)
      refine ⟨x, rfl, x, p, 3, rfl, hx.same sm2, _, rfl, ?_⟩
      rw [List.flatMap_cons] at hp hl
      refine ite2 (fun c => ?_) (fun c => ?_)
      · obtain ⟨a, b, c', rfl⟩ := isTn3 c
        obtain ⟨t, xs, rfl, ht, hxs⟩ := hx.tup_inv
        obtain ⟨x1, hx1, hd1⟩ := hxs.get (i := 1) rfl
        obtain ⟨x2, hx2, hd2⟩ := hxs.get (i := 2) rfl
        rw [partsD] at hp hl
        simp only [List.length_append, List.length_cons] at hl
        have hdr := flat_le dr
        have hb1 := parts_pos b
        have hb2 := parts_pos c'
        have lr : r.length = dr.length := hr'.length
        refine ⟨_, rfl, .inl ⟨rfl, _, SqL.of ew2⟩, _, rfl, t, xs, 2, x2, rfl, rfl, SqT.of (sm2 _ _ ht), atI_nat (j := 2) hx2, pw, _, x2, rfl, rfl, ew2, ?_, ?_⟩
        · rw [List.length_reverse, lr]
          exact small4 (by omega)
        have ew3 : (upd H2 pw (.lst (r.reverse ++ [x2]))) pw = some (.lst (r.reverse ++ [x2])) := upd_same
        have sm3 : Same H (upd H2 pw (.lst (r.reverse ++ [x2]))) := fun b o e => by
          rw [upd_ne (ne_of_none e npw0)]
          exact sm2 _ _ e
        refine ⟨_, rfl, .inl ⟨rfl, _, SqL.of ew3⟩, _, rfl, t, xs, 1, x1, rfl, rfl, SqT.of (sm3 _ _ ht), atI_nat (j := 1) hx1, pw, _, x1, rfl, rfl, ew3, ?_, ?_⟩
        · rw [List.length_append, List.length_reverse, lr, List.length_singleton]
          exact small4 (by omega)
        refine ⟨(List.flatMap partsD (b :: c' :: dr)).length, ?_, some (.ref t), fs ++ [.ref t], x1 :: x2 :: r, dfs ++ [.tuple [a, b, c']], b :: c' :: dr, rfl, ?_, ?_, ?_, hf.append (.cons hx .nil), .cons hd1 (.cons hd2 hr'), ?_, rfl⟩
        · rw [List.flatMap_cons, List.flatMap_cons, List.flatMap_cons, partsD]
          simp only [List.length_append, List.length_cons]
          omega
        · intro b o e
          rw [upd_ne (ne_of_none e npw0)]
          exact sm3 _ _ e
        · rw [upd_ne np, upd_ne np]
          exact ef2
        · rw [upd_same, List.reverse_cons, List.reverse_cons]
        · rw [hp, List.flatMap_cons, List.flatMap_cons]
          simp only [List.append_assoc, List.cons_append, List.nil_append]
      · have hp1 := not3p c
        rw [hp1] at hp
        refine ⟨(List.flatMap partsD dr).length, ?_, some x, fs ++ [x], r, dfs ++ [p], dr, rfl, sm2, ef2, ew2, hf.append (.cons hx .nil), hr', ?_, rfl⟩
        · rw [List.flatMap_cons, hp1, List.length_append, List.length_singleton]
          omega
        · rw [hp]
          simp only [List.append_assoc, List.cons_append, List.nil_append]
end
end K01

namespace K01
open PySem L2 VK
theorem find_at {α β : Type} {f : α → Option β} {b : β} : ∀ (i : Nat) (l : List α) (x : α), (l.take i).findSome? f = none → l[i]? = some x → f x = some b → l.findSome? f = some b
  | _, [], _, _, h, _ => by simp at h
  | 0, y :: l, x, _, h, hf => by
    have e : y = x := Option.some.inj h
    rw [List.findSome?_cons, e, hf]
  | i + 1, y :: l, x, h0, h, hf => by
    rw [List.take_succ_cons, List.findSome?_cons] at h0
    rw [List.findSome?_cons]
    cases hy : f y with
    | some z =>
      rw [hy] at h0
      cases h0
    | none =>
      rw [hy] at h0
      exact find_at i l x h0 h hf
theorem find_next {α β : Type} {f : α → Option β} {i : Nat} {l : List α} {x : α} (h0 : (l.take i).findSome? f = none) (h : l[i]? = some x) (hf : f x = none) : (l.take (i + 1)).findSome? f = none := by
  rw [List.take_add_one, h, List.findSome?_append, h0]
  show ([x].findSome? f) = none
  rw [List.findSome?_cons, hf]
  rfl
theorem err_size {n : Int} {d : PyData} (h : wordD n d = none) (c : (15 : Int) < ((partsD d).length : Nat)) : errD n d = some ("size" : Str) := by
  unfold errD
  rw [h]
  exact if_pos c
theorem err_none {n : Int} {d : PyData} (h : wordD n d = none) (c : ¬ (15 : Int) < ((partsD d).length : Nat)) : errD n d = none := by
  unfold errD
  rw [h]
  exact if_neg c
section
variable {P : Program} {w : World} {K : PySem.W.Frag} {mg : Str → Option Value} {base : Heap}
theorem ok_size (D : DefAt K mg "size" s_size ["formula"]) (c_parts : CalG P w K mg base 2 "parts" spParts) (b_len : mg "len" = none) : CalG P w K mg base 3 "size" spSize := by
  have sc := sc5
  refine def_ok D sc (fun vs H Q E h => ?_) fun f cdv A outer s H vs Q E gA hr h => ?_
  · obtain ⟨v, d, rfl, _⟩ := h
    rfl
  obtain ⟨v, d, rfl, hd, hz, q⟩ := h
  refine ⟨_, (pss_one (ps_ret (pe_callB (call_len_seq) (by rfl) b_len PySem.boot_len (pa_cons (pe_cg c_parts gA hr (by omega) (by rfl) (pa_cons (pv 0) pa_nil)) pa_nil)))), ?_⟩
  refine ⟨_, rfl, v, d, rfl, hd, hz, fun p xs H1 sm ep hx => ?_⟩
  refine ⟨p, xs, rfl, .inl (SqL.of ep), ?_⟩
  rw [hx.length]
  exact q H1 sm
theorem ok_formula_error (D : DefAt K mg "formula_error" s_formula_error ["names", "value"]) (c_parts : CalG P w K mg base 2 "parts" spParts) (c_part_error : CalG P w K mg base 2 "part_error" spPartErr) (b_len : mg "len" = none)
    {t15 : Tok} (g_MAX_SIZE : mg "MAX_SIZE" = some (.int 15 t15)) : CalG P w K mg base 3 "formula_error" spErr := by
  have sc := sc6
  have r_MAX_SIZE : RelV (.int 15) (.int 15 t15) := ⟨t15, rfl⟩
  refine def_ok D sc (fun vs H Q E h => ?_) fun f cdv A outer s H vs Q E gA hr h => ?_
  · obtain ⟨v, d, n, rfl, _⟩ := h
    rfl
  obtain ⟨v, d, n, rfl, hd, hz, q⟩ := h
  refine ⟨_, (pss_cons (ps_set (i := 2) sc.nd rfl (.inl rfl) (pe_cg c_parts gA hr (by omega) (by rfl) (pa_cons (pv 1) pa_nil)))
    (pss_cons (ps_for PassesOwn.never rfl (pi_list (pv 2)) (pg_name (i := 3) sc.nd rfl (.inl rfl)) (pss_cons (ps_set (i := 4) sc.nd rfl (.inl rfl) (pe_cg c_part_error gA hr (by omega) (by rfl) (pa_cons (pv 0) (pa_cons (pv 3) pa_nil))))
    (pss_one (ps_if (pt_cmpR op_notN (pv 4) pe_non (nomark _)) (pss_one (ps_ret (pv 4))) pss_nil))))
    (pss_one (ps_ret (pe_ifExp (pt_cmpR op_gt (pe_callB (call_len_seq) (by rfl) b_len PySem.boot_len (pa_cons (pv 2) pa_nil)) (pe_glob rfl g_MAX_SIZE r_MAX_SIZE) (nomark _)) pe_str pe_non))))), ?_⟩
  refine ⟨_, rfl, v, d, rfl, hd, hz, fun p xs H1 sm ep hx => ?_⟩
  refine ⟨_, rfl, p, rfl, ⟨xs, SqL.of ep⟩, for_list (xs := xs) (fun i σ Hc => Hc = H1 ∧ ∃ y3 y4, σ = [some (.int n), some v, some (.ref p), y3, y4] ∧ ((partsD d).take i).findSome? (partErr n) = none) ⟨rfl, none, none, rfl, rfl⟩ (fun i σ Hc _ hp => ?_) (fun i x σ Hc hi hp => ?_) (fun σ Hc hp => ?_)⟩
  · obtain ⟨rfl, _⟩ := hp
    exact SqL.of ep
  · obtain ⟨rfl, y3, y4, rfl, h0⟩ := hp
    obtain ⟨di, hdi, hda⟩ := hx.getv hi
    refine ⟨_, rfl, _, rfl, x, di, n, rfl, hda, ?_⟩
    refine ⟨_, rfl, rfl, _, rfl, ?_⟩
    cases hpe : partErr n di with
    | none =>
      refine iteNS rfl ?_
      exact ⟨rfl, some x, some .non, rfl, find_next h0 hdi hpe⟩
    | some e =>
      have ne : (!decide (optV (some e) = V.non)) = true := rfl
      rw [ne]
      refine iteT ⟨_, rfl, ?_⟩
      have ee : errD n d = some e := by
        unfold errD
        rw [← first_word, find_at i _ di h0 hdi hpe]
      have q' := q Hc sm
      rw [ee] at q'
      exact q'
  · obtain ⟨rfl, y3, y4, rfl, h0⟩ := hp
    have hn : wordD n d = none := by
      rw [← first_word]
      rw [List.take_of_length_le (by rw [hx.length]; exact Nat.le_refl _)] at h0
      exact h0
    have q' := q Hc sm
    refine ⟨_, rfl, p, xs, rfl, .inl (SqL.of ep), _, _, rfl, rfl, _, rfl, ?_⟩
    refine ite2 (fun c => ?_) (fun c => ?_)
    · have c' : (15 : Int) < ((partsD d).length : Nat) := by
        have z := of_decide_eq_true c
        rw [hx.length] at z
        exact z
      rw [err_size hn c'] at q'
      exact q'
    · have c' : ¬ (15 : Int) < ((partsD d).length : Nat) := fun z => c (decide_eq_true (by rw [hx.length]; exact z))
      rw [err_none hn c'] at q'
      exact q'
end
end K01

namespace K01
open PySem L2 VK
def htD : PyData → Nat
  | .tuple [_, b, c] => 1 + max (htD b) (htD c)
  | _ => 0
theorem word_trip (n : Int) (w a b : PyData) : wordD n (.tuple [w, a, b]) = (headErr w).or ((wordD n a).or (wordD n b)) := by
  rw [wordD]
  cases headErr w with
  | some x => rfl
  | none => cases wordD n a <;> rfl
theorem word_int {n i : Int} : wordD n (.int i) = partErr n (.int i) := by
  rw [wordD]
  intro w a b e
  cases e
theorem word_cases {n : Int} {d : PyData} (h : wordD n d = none) : (∃ i, d = .int i) ∨ ∃ x b c, d = .tuple [.str x, b, c] ∧ wordD n b = none ∧ wordD n c = none := by
  by_cases h3 : isTn 3 d = true
  · obtain ⟨a, b, c, rfl⟩ := isTn3 h3
    rw [wordD] at h
    cases he : headErr a with
    | some x =>
      rw [he] at h
      cases h
    | none =>
      rw [he] at h
      cases hb : wordD n b with
      | some x =>
        rw [hb] at h
        cases h
      | none =>
        rw [hb] at h
        cases a <;> try (cases he)
        exact .inr ⟨_, _, _, rfl, hb, h⟩
  · have e : wordD n d = partErr n d := by
      rw [wordD]
      intro w a b e
      rw [e] at h3
      exact h3 rfl
    by_cases hw : isW d = true
    · cases d <;> try (cases hw)
      exact .inl ⟨_, rfl⟩
    · rw [e, not3 h3 hw] at h
      cases h
theorem ht_trip (a b c : PyData) : htD b < htD (.tuple [a, b, c]) ∧ htD c < htD (.tuple [a, b, c]) := by
  rw [show htD (.tuple [a, b, c]) = 1 + max (htD b) (htD c) by rw [htD]]
  omega
theorem strs3 {H : Hp} {xs : List V} {x y z : Str} (h : DaAll H xs [.str x, .str y, .str z]) : xs = [.str x, .str y, .str z] := by
  cases h with
  | cons h1 r =>
    cases r with
    | cons h2 r =>
      cases r with
      | cons h3 r =>
        cases r
        rw [h1.str_inv, h2.str_inv, h3.str_inv]
abbrev s_count : Stmt := top 16
abbrev s_part_word : Stmt := top 17
abbrev s_formula_word : Stmt := top 18
theorem sc7 : FnScope ["_law_value"] ["_law_value"] (defScope s_count) := ⟨rfl, rfl, rfl, by decide +kernel, rfl, by decide +kernel, by decide +kernel⟩
theorem sc8 : FnScope ["_law_names", "_law_value", "_law_first"] ["_law_names", "_law_value"] (defScope s_part_word) := ⟨rfl, rfl, rfl, by decide +kernel, rfl, by decide +kernel, by decide +kernel⟩
theorem sc9 : FnScope ["_law_names", "_law_value", "_law_word"] ["_law_names", "_law_value"] (defScope s_formula_word) := ⟨rfl, rfl, rfl, by decide +kernel, rfl, by decide +kernel, by decide +kernel⟩
def spCount (k : Nat) : Sp := fun vs H Q _ => ∃ v d n, vs = [v] ∧ Da H v d ∧ wordD n d = none ∧ htD d < k ∧ Q (.int (countD d : Nat)) H
def spWord (k : Nat) : Sp := fun vs H Q _ => ∃ v d n, vs = [.int n, v] ∧ Da H v d ∧ htD d < k ∧ ∀ H', Same H H' → Q (optV (wordD n d)) H'
section
variable {P : Program} {w : World} {K : PySem.W.Frag} {mg : Str → Option Value} {base : Heap}
theorem ok_count (D : DefAt K mg "_law_count" s_count ["_law_value"]) (b_isinstance : mg "isinstance" = none) (b_tuple : mg "tuple" = none) : ∀ k : Nat, CalG P w K mg base k "_law_count" (spCount k)
  | 0 => none_left D fun vs H Q E h => by
    obtain ⟨v, d, n, _, _, _, z, _⟩ := h
    omega
  | k + 1 => by
    have c__law_count := ok_count D b_isinstance b_tuple k
    have sc := sc7
    refine def_ok D sc (fun vs H Q E h => ?_) fun f cdv A outer s H vs Q E gA hr h => ?_
    · obtain ⟨v, d, n, rfl, _⟩ := h
      rfl
    obtain ⟨v, d, n, rfl, hd, hw, hk, q⟩ := h
    refine ⟨_, (pss_one (ps_ret (pe_ifExp (pt_val (pe_callB (call_isD) (by rfl) b_isinstance (by decide +kernel) (pa_cons (pv 0) (pa_cons (pe_bltn (v := .ty "tuple") (by rfl) b_tuple (by decide +kernel) rfl) pa_nil)))) (pe_op op_add (pe_op op_add pe_int (pe_cg c__law_count gA hr (by omega) (by rfl) (pa_cons (pe_ix ix_tup (pv 0) pe_int (fun _ _ => rfl)) pa_nil))) (pe_cg c__law_count gA hr (by omega) (by rfl) (pa_cons (pe_ix ix_tup (pv 0) pe_int (fun _ _ => rfl)) pa_nil))) pe_int))), ?_⟩
    refine ⟨_, rfl, v, d, _, _, rfl, hd, kit_tuple d, _, rfl, ?_⟩
    rcases word_cases hw with ⟨i, rfl⟩ | ⟨x, b, c, rfl, hb, hc⟩
    · exact q
    · refine iteT ?_
      obtain ⟨t, xs, rfl, ht, hxs⟩ := hd.tup_inv
      obtain ⟨x1, hx1, hd1⟩ := hxs.get (i := 1) rfl
      obtain ⟨x2, hx2, hd2⟩ := hxs.get (i := 2) rfl
      have hh := ht_trip (.str x) b c
      refine ⟨_, rfl, t, xs, 1, x1, rfl, rfl, SqT.of ht, atI_nat (j := 1) hx1, x1, b, n, rfl, hd1, hb, by omega, _, _, rfl, rfl, ?_⟩
      refine ⟨_, rfl, t, xs, 2, x2, rfl, rfl, SqT.of ht, atI_nat (j := 2) hx2, x2, c, n, rfl, hd2, hc, by omega, _, _, rfl, rfl, ?_⟩
      have e : ((countD (.tuple [.str x, b, c]) : Nat) : Int) = 1 + (countD b : Nat) + (countD c : Nat) := by
        rw [countD]
        omega
      rw [e] at q
      exact q
theorem ok_part_word (D : DefAt K mg "_law_part_word" s_part_word ["_law_names", "_law_value"]) (b_isinstance : mg "isinstance" = none) (b_tuple : mg "tuple" = none) (b_int : mg "int" = none) (b_bool : mg "bool" = none) (b_str : mg "str" = none) (b_len : mg "len" = none) :
    ∀ k : Nat, CalG P w K mg base k "_law_part_word" (spWord k)
  | 0 => none_left D fun vs H Q E h => by
    obtain ⟨v, d, n, _, _, z, _⟩ := h
    omega
  | k + 1 => by
    have c__law_part_word := ok_part_word D b_isinstance b_tuple b_int b_bool b_str b_len k
    have sc := sc8
    refine def_ok D sc (fun vs H Q E h => ?_) fun f cdv A outer s H vs Q E gA hr h => ?_
    · obtain ⟨v, d, n, rfl, _⟩ := h
      rfl
    obtain ⟨v, d, n, rfl, hd, hk, q⟩ := h
    refine ⟨_, (pss_cons (ps_if (PW.pt (pw_and (pt_val (pe_callB (call_isD) (by rfl) b_isinstance (by decide +kernel) (pa_cons (pv 1) (pa_cons (pe_bltn (v := .ty "int") (by rfl) b_int (by decide +kernel) rfl) pa_nil)))) (pw_and1 (pt_not (pt_val (pe_callB (call_isD) (by rfl) b_isinstance (by decide +kernel) (pa_cons (pv 1) (pa_cons (pe_bltn (v := .ty "bool") (by rfl) b_bool (by decide +kernel) rfl) pa_nil)))))))) (pss_one (ps_ret (pe_ifExp (pt_chain op_le op_lt pe_int (pv 1) (pv 0)) pe_non pe_str))) pss_nil)
    (pss_cons (ps_if (PW.pt (pw_or (pt_not (pt_val (pe_callB (call_isD) (by rfl) b_isinstance (by decide +kernel) (pa_cons (pv 1) (pa_cons (pe_bltn (v := .ty "tuple") (by rfl) b_tuple (by decide +kernel) rfl) pa_nil))))) (pw_or1 (pt_cmpR op_ne (pe_callB (call_len_seq) (by rfl) b_len PySem.boot_len (pa_cons (pv 1) pa_nil)) pe_int (nomark _))))) (pss_one (ps_ret pe_str)) pss_nil)
    (pss_cons (ps_if (PW.pt (pw_or (pt_not (pt_val (pe_callB (call_isD) (by rfl) b_isinstance (by decide +kernel) (pa_cons (pe_ix ix_tup (pv 1) pe_int (fun _ _ => rfl)) (pa_cons (pe_bltn (v := .ty "str") (by rfl) b_str (by decide +kernel) rfl) pa_nil))))) (pw_or1 (pt_cmpR op_notIn_seq (pe_ix ix_tup (pv 1) pe_int (fun _ _ => rfl)) (pe_lit (ρ := []) (.lst (.cons .str (.cons .str (.cons .str .nil))) (Nat.le_of_ble_eq_true rfl))) rfl)))) (pss_one (ps_ret pe_str)) pss_nil)
    (pss_cons (ps_set (i := 2) sc.nd rfl (.inl rfl) (pe_cg c__law_part_word gA hr (by omega) (by rfl) (pa_cons (pv 0) (pa_cons (pe_ix ix_tup (pv 1) pe_int (fun _ _ => rfl)) pa_nil))))
    (pss_one (ps_ret (pe_ifExp (pt_cmpR op_isN (pv 2) pe_non (nomark _)) (pe_cg c__law_part_word gA hr (by omega) (by rfl) (pa_cons (pv 0) (pa_cons (pe_ix ix_tup (pv 1) pe_int (fun _ _ => rfl)) pa_nil))) (pv 2)))))))), ?_⟩
    by_cases hw : isW d = true
    · cases d <;> try (cases hw)
      rename_i i
      obtain rfl := hd.int_inv
      refine ⟨_, rfl, _, _, _, _, rfl, hd, kit_int _, _, rfl, iteT ?_⟩
      refine ⟨_, rfl, _, _, _, _, rfl, hd, kit_bool _, _, rfl, iteT ?_⟩
      have q' := q H (Same.refl H)
      rw [word_int] at q'
      refine ⟨_, rfl, _, _, rfl, rfl, _, rfl, ?_⟩
      refine ite2 (fun c1 => ?_) (fun c1 => ?_)
      · refine ⟨_, rfl, _, _, rfl, rfl, _, rfl, ?_⟩
        refine ite2 (fun c2 => ?_) (fun c2 => ?_)
        · rw [partErr, if_pos ⟨of_decide_eq_true c1, of_decide_eq_true c2⟩] at q'
          exact q'
        · rw [partErr, if_neg (fun z => c2 (decide_eq_true z.2))] at q'
          exact q'
      · refine ⟨_, rfl, iteF ?_⟩
        rw [partErr, if_neg (fun z => c1 (decide_eq_true z.1))] at q'
        exact q'
    · have fo : isTn 3 d = false → wordD n d = some ("formula" : Str) := fun z => by
        rw [show wordD n d = partErr n d by
          rw [wordD]
          intro w a b e
          rw [e] at z
          cases z]
        exact not3 (by rw [z]; exact Bool.false_ne_true) hw
      by_cases ht : isT d = true
      · cases d <;> try (cases ht)
        rename_i ds
        obtain ⟨t, xs, rfl, et, hxs⟩ := hd.tup_inv
        refine ⟨_, rfl, _, _, _, _, rfl, hd, kit_int _, _, rfl, iteF (iteF ?_)⟩
        refine ⟨_, rfl, _, _, _, _, rfl, hd, kit_tuple _, _, rfl, iteF ?_⟩
        refine ⟨_, rfl, t, xs, rfl, .inr (SqT.of et), rfl, _, rfl, ?_⟩
        by_cases h3 : isTn 3 (.tuple ds) = true
        · obtain ⟨a, b, c, e⟩ := isTn3 h3
          injection e with e
          subst e
          have el : ((xs.length : Nat) : Int) = 3 := by
            rw [hxs.length]
            rfl
          rw [el]
          refine iteNS rfl ?_
          obtain ⟨x0, hx0, hd0⟩ := hxs.get (i := 0) rfl
          obtain ⟨x1, hx1, hd1⟩ := hxs.get (i := 1) rfl
          obtain ⟨x2, hx2, hd2⟩ := hxs.get (i := 2) rfl
          have hh := ht_trip a b c
          refine ⟨_, rfl, t, xs, 0, x0, rfl, rfl, SqT.of et, atI_nat (j := 0) hx0, x0, a, _, _, rfl, hd0, kit_str a, _, rfl, ?_⟩
          by_cases hs : isS a = true
          · cases a <;> try (cases hs)
            rename_i z
            obtain rfl := hd0.str_inv
            refine iteF ?_
            refine ⟨_, rfl, t, xs, 0, _, rfl, rfl, SqT.of et, atI_nat (j := 0) hx0, H, Same.refl H, (fun _ z => nomatch z), fun lv H1 s1 dl => ?_⟩
            obtain ⟨al, ys, rfl, el2, hys⟩ := (dl.same (plus_in (Same.refl H) s1)).lst_inv
            have eys := strs3 hys
            subst eys
            refine ⟨al, _, rfl, .inl (SqL.of el2), rfl, rfl, _, rfl, ?_⟩
            have ew := word_trip n (.str z) b c
            by_cases hz : isWord z = true
            · have eh : headErr (.str z) = none := if_pos hz
              rw [eh] at ew
              have hz' : inV (.str z) [.str "with", .str "behind", .str "ahead"] = true := hz
              show if (if true = true then !inV (.str z) [.str "with", .str "behind", .str "ahead"] else inV (.str z) [.str "with", .str "behind", .str "ahead"]) = true then _ else _
              rw [hz']
              refine iteF ?_
              refine ⟨_, rfl, _, rfl, t, xs, 1, x1, rfl, rfl, SqT.of (s1 _ _ et), atI_nat (j := 1) hx1, x1, b, n, rfl, hd1.same s1, by omega, fun H2 s2 => ?_⟩
              refine ⟨_, rfl, rfl, _, rfl, ?_⟩
              cases hb : wordD n b with
              | none =>
                rw [hb] at ew
                refine iteT ⟨_, rfl, _, rfl, t, xs, 2, x2, rfl, rfl, SqT.of (s2 _ _ (s1 _ _ et)), atI_nat (j := 2) hx2, x2, c, n, rfl, (hd2.same s1).same s2, by omega, fun H3 s3 => ?_⟩
                have q' := q H3 ((s1.trans s2).trans s3)
                rw [ew] at q'
                exact q'
              | some x =>
                rw [hb] at ew
                refine iteF ⟨_, rfl, ?_⟩
                have q' := q H2 (s1.trans s2)
                rw [ew] at q'
                exact q'
            · have eh : headErr (.str z) = some ("word" : Str) := if_neg hz
              rw [eh] at ew
              have hz' : inV (.str z) [.str "with", .str "behind", .str "ahead"] = false := by
                cases y : inV (.str z) [.str "with", .str "behind", .str "ahead"] with
                | false => rfl
                | true => exact (hz y).elim
              show if (if true = true then !inV (.str z) [.str "with", .str "behind", .str "ahead"] else inV (.str z) [.str "with", .str "behind", .str "ahead"]) = true then _ else _
              rw [hz']
              refine iteT ?_
              have q' := q H1 s1
              rw [ew] at q'
              exact q'
          · have e1 : isS a = false := by simpa using hs
            rw [e1]
            refine iteT (iteT ?_)
            have eh : headErr a = some ("word" : Str) := by cases a <;> first | rfl | exact (hs rfl).elim
            have q' := q H (Same.refl H)
            rw [wordD, eh] at q'
            exact q'
        · have el : ¬ V.int ((xs.length : Nat) : Int) = V.int 3 := fun z => h3 (decide_eq_true (by
            rw [← hxs.length]
            exact V.int.inj z))
          rw [decide_eq_false el]
          refine iteT ?_
          have q' := q H (Same.refl H)
          rw [fo (by simpa using h3)] at q'
          exact q'
      · have e3 : isTn 3 d = false := by cases d <;> first | rfl | exact (ht rfl).elim
        have q' := q H (Same.refl H)
        rw [fo e3] at q'
        have e1 : isT d = false := by simpa using ht
        cases hi : isI d with
        | true =>
          have e2 : isBo d = true := by cases d <;> first | rfl | exact (hw rfl).elim | (cases hi; done)
          refine ⟨_, rfl, _, _, _, _, rfl, hd, kit_int _, _, rfl, ?_⟩
          rw [hi]
          refine iteT ⟨_, rfl, _, _, _, _, rfl, hd, kit_bool _, _, rfl, ?_⟩
          rw [e2]
          refine iteF ⟨_, rfl, _, _, _, _, rfl, hd, kit_tuple _, _, rfl, ?_⟩
          rw [e1]
          exact iteT (iteT q')
        | false =>
          refine ⟨_, rfl, _, _, _, _, rfl, hd, kit_int _, _, rfl, ?_⟩
          rw [hi]
          refine iteF (iteF ⟨_, rfl, _, _, _, _, rfl, hd, kit_tuple _, _, rfl, ?_⟩)
          rw [e1]
          exact iteT (iteT q')
end
end K01

namespace K01
open PySem L2 VK
abbrev s_law_formula_word : Stmt := top 18
abbrev s_law_bag : Stmt := top 11
abbrev s_law_draw : Stmt := top 12
abbrev s_law_pick : Stmt := top 13
theorem scFW : FnScope ["_law_names", "_law_value", "_law_word"] ["_law_names", "_law_value"] (defScope s_law_formula_word) := ⟨rfl, rfl, rfl, by decide +kernel, rfl, by decide +kernel, by decide +kernel⟩
theorem scB : FnScope ["_law_script", "_law_great_here", "_law_small", "_law_cell"] ["_law_script"] (defScope s_law_bag) := ⟨rfl, rfl, rfl, by decide +kernel, rfl, by decide +kernel, by decide +kernel⟩
theorem scD : FnScope ["_law_bag_here", "_law_limit", "_law_digit", "_law_mixed"] ["_law_bag_here", "_law_limit"] (defScope s_law_draw) := ⟨rfl, rfl, rfl, by decide +kernel, rfl, by decide +kernel, by decide +kernel⟩
theorem scP : FnScope ["_law_bag_here", "_law_items"] ["_law_bag_here", "_law_items"] (defScope s_law_pick) := ⟨rfl, rfl, rfl, by decide +kernel, rfl, by decide +kernel, by decide +kernel⟩
def spFW (k : Nat) : Sp := fun vs H Q _ => ∃ v d n, vs = [.int n, v] ∧ Da H v d ∧ htD d < k ∧ ∀ H', Same H H' → Q (optV (errD n d)) H'
def spBag (K : PySem.W.Frag) : Sp := fun vs H Q _ => ∃ (a : Addr) (ns : List Int), vs = [.ref a] ∧ SqL K H a (ns.map V.int) ∧ ns.length ≤ 63 ∧ ∀ b H', Same H H' → BagAt b H' → Q (.ref b) H'
theorem err_some {n : Int} {d : PyData} {x : Str} (h : wordD n d = some x) : errD n d = some x := by
  unfold errD
  rw [h]
section
variable {P : Program} {w : World} {K : PySem.W.Frag} {mg : Str → Option Value} {base : Heap}
theorem ok_formula_word (D : DefAt K mg "_law_formula_word" s_law_formula_word ["_law_names", "_law_value"]) {k : Nat} (c__law_part_word : CalG P w K mg base k "_law_part_word" (spWord k)) (c__law_count : CalG P w K mg base k "_law_count" (spCount k)) :
    CalG P w K mg base (k + 1) "_law_formula_word" (spFW k) := by
  have sc := scFW
  refine def_ok D sc (fun vs H Q E h => ?_) fun f cdv A outer s H vs Q E gA hr h => ?_
  · obtain ⟨v, d, n, rfl, _⟩ := h
    rfl
  obtain ⟨v, d, n, rfl, hd, hk, q⟩ := h
  refine ⟨_, (pss_cons (ps_set (i := 2) sc.nd rfl (.inl rfl) (pe_cg c__law_part_word gA hr (by omega) (by rfl) (pa_cons (pv 0) (pa_cons (pv 1) pa_nil))))
    (pss_one (ps_ret (pe_ifExp (PW.pt (pw_and (pt_cmpR op_isN (pv 2) pe_non (nomark _)) (pw_and1 (pt_cmpR op_gt (pe_cg c__law_count gA hr (by omega) (by rfl) (pa_cons (pv 1) pa_nil)) pe_int (nomark _))))) pe_str (pv 2))))), ?_⟩
  refine ⟨_, rfl, _, rfl, v, d, n, rfl, hd, hk, fun H1 s1 => ?_⟩
  refine ⟨_, rfl, rfl, _, rfl, ?_⟩
  have q' := q H1 s1
  cases hw : wordD n d with
  | some x =>
    rw [err_some hw] at q'
    exact iteF (iteF ⟨_, rfl, q'⟩)
  | none =>
    refine iteT ⟨_, rfl, v, d, n, rfl, hd.same s1, hw, hk, _, _, rfl, rfl, _, rfl, ?_⟩
    have ec := count_parts n d hw
    refine ite2 (fun c => ?_) (fun c => ?_)
    · rw [err_size hw (by rw [ec]; exact of_decide_eq_true c)] at q'
      exact q'
    · rw [err_none hw (fun z => c (decide_eq_true (by rw [← ec]; exact z)))] at q'
      exact ⟨_, rfl, q'⟩
theorem ok_bag (D : DefAt K mg "_law_bag" s_law_bag ["_law_script"]) (b_len : mg "len" = none) (b_abs : mg "abs" = none) (b_int : mg "int" = none) : CalG P w K mg base 1 "_law_bag" (spBag K) := by
  have sc := scB
  refine def_ok D sc (fun vs H Q E h => ?_) fun f cdv A outer s H vs Q E gA hr h => ?_
  · obtain ⟨a, ns, rfl, _⟩ := h
    rfl
  obtain ⟨a, ns, rfl, hS, h63, q⟩ := h
  refine ⟨_, (pss_cons (ps_par (i := 1) (j := 2) rfl sc.nd rfl rfl (by decide) rfl rfl (pa_cons pe_int (pa_cons (pe_op op_add pe_int (pe_op op_mul pe_int (pe_callB (call_len_seq) (by rfl) b_len PySem.boot_len (pa_cons (pv 0) pa_nil)))) pa_nil)) (by rfl))
    (pss_cons (ps_for PassesOwn.never rfl (pi_list (pe_slice sl_list (pv 0) po_none (po_some pe_int))) (pg_name (i := 3) sc.nd rfl (.inl rfl)) (pss_one (ps_if (pt_cmpR op_ge (pv 3) (pe_op op_pow pe_int pe_int) (nomark _)) (pss_one (ps_set (i := 1) sc.nd rfl (.inl rfl) (pe_op op_sub (pe_op op_add (pe_op op_mul (pv 1) pe_int) (pv 3)) (pe_op op_pow pe_int pe_int)))) (pss_cons (ps_set (i := 2) sc.nd rfl (.inl rfl) (pe_op op_add (pe_op op_add (pe_op op_mul (pv 2) pe_int) (pe_op op_mul pe_int (pe_callB (call_abs) (by rfl) b_abs (by decide +kernel) (pa_cons (pv 3) pa_nil)))) (pe_callTy call_int1 (by rfl) b_int (by decide +kernel) (pa_cons (pe_cmpR op_lt (pv 3) pe_int (nomark _)) pa_nil))))
    (pss_one (ps_set (i := 2) sc.nd rfl (.inl rfl) (pe_op op_mod (pe_callTy call_int1 (by rfl) b_int (by decide +kernel) (pa_cons (pv 2) pa_nil)) pe_int)))))))
    (pss_one (ps_ret (pe_lst (pa_cons (pv 1) (pa_cons (pv 2) (pa_cons pe_int pa_nil)))))))), ?_⟩
  refine ⟨_, rfl, a, _, rfl, .inl hS, _, _, rfl, rfl, .inl ⟨by decide, by decide⟩, _, _, rfl, rfl, _, _, rfl, ?_⟩
  refine ⟨_, rfl, 63, rfl, a, _, rfl, hS, fun p np => ?_⟩
  have s1 : Same H (upd H p (.lst (cutV (ns.map V.int) none (some 63)))) := same_new np
  have hl : (ns.map V.int).length = ns.length := List.length_map _
  refine ⟨p, rfl, ⟨_, SqL.of upd_same⟩, for_list (xs := cutV (ns.map V.int) none (some 63)) (fun i σ Hc => Hc = upd H p (.lst (cutV (ns.map V.int) none (some 63))) ∧ ∃ (g x : Int) (y : Option V), σ = [some (.ref a), some (.int g), some (.int x), y] ∧ 0 ≤ g ∧ 0 ≤ x ∧ x < 2305843009213693952)
    ⟨rfl, 0, _, none, rfl, Int.le_refl 0, ?_, ?_⟩ (fun i σ Hc _ hp => ?_) (fun i v σ Hc hi hp => ?_) (fun σ Hc hp => ?_)⟩
  · rw [hl]
    omega
  · rw [hl]
    omega
  · obtain ⟨rfl, _⟩ := hp
    exact SqL.of upd_same
  · obtain ⟨rfl, g, x, y, rfl, hg, hx0, hx1⟩ := hp
    have hm : v ∈ ns.map V.int := by
      have z := List.mem_of_getElem? hi
      unfold cutV at z
      exact List.mem_of_mem_drop (List.mem_of_mem_take z)
    obtain ⟨c, _, rfl⟩ := List.mem_map.mp hm
    refine ⟨_, rfl, _, _, rfl, rfl, ⟨by decide, by decide, by decide⟩, _, _, rfl, rfl, _, rfl, ?_⟩
    refine ite2 (fun t => ?_) (fun t => ?_)
    · have t' := of_decide_eq_true t
      refine ⟨_, rfl, _, _, rfl, rfl, .inr ⟨by decide, by decide⟩, _, rfl, _, _, rfl, rfl, _, _, rfl, rfl, ⟨by decide, by decide, by decide⟩, _, _, rfl, rfl, ?_⟩
      refine ⟨rfl, _, _, _, rfl, ?_, hx0, hx1⟩
      omega
    · refine ⟨_, rfl, _, _, rfl, rfl, .inr ⟨by decide, by decide⟩, _, rfl, c, rfl, _, _, rfl, rfl, .inl ⟨by decide, by decide⟩, _, _, rfl, rfl, _, rfl, _, _, rfl, rfl, .inr ⟨_, rfl, _, _, rfl, rfl, ?_⟩⟩
      refine ⟨_, rfl, .inl ⟨_, rfl, _, _, rfl, rfl, (by show (0 : Int) < 2305843009213693951; decide), ?_⟩⟩
      refine ⟨rfl, _, _, _, rfl, hg, Int.emod_nonneg _ (by decide), Int.lt_trans (Int.emod_lt_of_pos _ (by decide)) (by decide)⟩
  · obtain ⟨rfl, g, x, y, rfl, hg, hx0, hx1⟩ := hp
    refine ⟨_, rfl, _, rfl, (by show 3 ≤ sizeLine; decide), fun b nb => ?_⟩
    exact q b _ (s1.trans (same_new nb)) ⟨g, x, 0, upd_same, hg, hx0, hx1, Int.le_refl 0⟩
theorem ok_draw (D : DefAt K mg "_law_draw" s_law_draw ["_law_bag_here", "_law_limit"]) (b_int : mg "int" = none) : CalG P w K mg base 1 "_law_draw" spDraw := by
  have sc := scD
  refine def_ok D sc (fun vs H Q E h => ?_) fun f cdv A outer s H vs Q E gA hr h => ?_
  · obtain ⟨b, m, rfl, _⟩ := h
    rfl
  obtain ⟨b, m, rfl, hb, h0, h1, q⟩ := h
  obtain ⟨g, x, n, e, hg, hx0, hx1, hn⟩ := hb
  have hdiv : CDivW (0 : Int) m := wide_div (b := 30) h0 (by omega) (by decide) (by decide)
  have in0 : -(2 ^ 64) < m ∧ m < 2 ^ 64 := ⟨by omega, by omega⟩
  refine ⟨_, (pss_cons (ps_if (pt_cmpR op_gt (pe_ix ix_list (pv 0) pe_int (fun _ _ => rfl)) pe_int (nomark _)) (pss_cons (ps_set (i := 2) sc.nd rfl (.inl rfl) (pe_op op_mod (pe_callTy call_int1 (by rfl) b_int (by decide +kernel) (pa_cons (pe_ix ix_list (pv 0) pe_int (fun _ _ => rfl)) pa_nil)) (pv 1)))
    (pss_cons (ps_asg (pe_op op_fdivW (pe_ix ix_list (pv 0) pe_int (fun _ _ => rfl)) (pv 1)) (pg_sub (pv 0) pe_int set_list))
    (pss_one (ps_ret (pv 2))))) pss_nil)
    (pss_cons (ps_asg (pe_op op_add (pe_ix ix_list (pv 0) pe_int (fun _ _ => rfl)) pe_int) (pg_sub (pv 0) pe_int set_list))
    (pss_cons (ps_set (i := 3) sc.nd rfl (.inl rfl) (pe_op op_add (pe_op op_mul (pe_ix ix_list (pv 0) pe_int (fun _ _ => rfl)) pe_int) (pe_op op_mul pe_int (pe_ix ix_list (pv 0) pe_int (fun _ _ => rfl)))))
    (pss_cons (ps_asg (pe_op op_mod (pe_callTy call_int1 (by rfl) b_int (by decide +kernel) (pa_cons (pv 3) pa_nil)) pe_int) (pg_sub (pv 0) pe_int set_list))
    (pss_one (ps_ret (pe_op op_mod (pe_op op_fdivW (pe_op op_mod (pe_callTy call_int1 (by rfl) b_int (by decide +kernel) (pa_cons (pe_op op_mul (pe_ix ix_list (pv 0) pe_int (fun _ _ => rfl)) (pe_ix ix_list (pv 0) pe_int (fun _ _ => rfl))) pa_nil)) pe_int) pe_int) (pv 1)))))))), ?_⟩
  refine ⟨_, rfl, b, _, 0, _, rfl, rfl, SqL.of e, atI_nat (j := 0) rfl, _, _, rfl, rfl, _, rfl, ?_⟩
  refine ite2 (fun c => ?_) (fun c => ?_)
  · refine ⟨_, rfl, b, _, 0, _, rfl, rfl, SqL.of e, atI_nat (j := 0) rfl, .inl ⟨_, rfl, _, rfl, _, _, rfl, rfl, h0, ?_⟩⟩
    refine ⟨_, rfl, b, _, 0, _, rfl, rfl, SqL.of e, atI_nat (j := 0) rfl, _, rfl, _, _, rfl, rfl, hdiv, _, rfl, b, _, 0, 0, rfl, rfl, e, rfl, ?_⟩
    refine ⟨_, rfl, q _ _ Keep.at ⟨_, _, _, upd_same, Int.ediv_nonneg hg (Int.le_of_lt h0), hx0, hx1, hn⟩ (Int.emod_nonneg _ (by omega)) (Int.emod_lt_of_pos _ h0)⟩
  · refine ⟨_, rfl, b, _, 2, _, rfl, rfl, SqL.of e, atI_nat (j := 2) rfl, _, _, rfl, rfl, _, rfl, b, _, 2, 2, rfl, rfl, e, rfl, ?_⟩
    have e1 : (upd H b (.lst ([V.int g, .int x, .int n].set 2 (.int (n + 1))))) b = some (.lst [.int g, .int x, .int (n + 1)]) := upd_same
    have k1 : Keep b H (upd H b (.lst ([V.int g, .int x, .int n].set 2 (.int (n + 1))))) := Keep.at
    generalize upd H b (.lst ([V.int g, .int x, .int n].set 2 (.int (n + 1)))) = H1 at e1 k1
    refine ⟨_, rfl, b, _, 1, _, rfl, rfl, SqL.of e1, atI_nat (j := 1) rfl, _, _, rfl, rfl, .inr ⟨by decide, by decide⟩, _, rfl, b, _, 2, _, rfl, rfl, SqL.of e1, atI_nat (j := 2) rfl, _, _, rfl, rfl, .inl ⟨by decide, by decide⟩, _, _, rfl, rfl, ?_⟩
    refine ⟨_, rfl, .inl ⟨_, rfl, _, _, rfl, rfl, (by show (0 : Int) < 2305843009213693951; decide), _, rfl, b, _, 1, 1, rfl, rfl, e1, rfl, ?_⟩⟩
    have hy0 : 0 ≤ (x * 2862933555777941757 + 3037000493 * (n + 1)) % 2305843009213693951 := Int.emod_nonneg _ (by decide)
    have hy1 : (x * 2862933555777941757 + 3037000493 * (n + 1)) % 2305843009213693951 < 2305843009213693951 := Int.emod_lt_of_pos _ (by decide)
    have e2 : ∀ v, (upd H1 b (.lst ([V.int g, .int x, .int (n + 1)].set 1 v))) b = some (.lst [.int g, v, .int (n + 1)]) := fun v => upd_same
    refine ⟨_, rfl, b, _, 1, _, rfl, rfl, SqL.of (e2 _), atI_nat (j := 1) rfl, _, rfl, b, _, 1, _, rfl, rfl, SqL.of (e2 _), atI_nat (j := 1) rfl, _, _, rfl, rfl, .inl ⟨Int.lt_of_lt_of_le (by decide) hy0, Int.lt_trans hy1 (by decide)⟩, .inl ⟨_, rfl, _, _, rfl, rfl, (by show (0 : Int) < 2305843009213693921; decide), _, _, rfl, rfl, wide_div (b := 30) (by decide) (by decide) (by decide) (by decide), _, rfl, _, _, rfl, rfl, h0, ?_⟩⟩
    exact q _ _ (k1.trans Keep.at) ⟨_, _, _, e2 _, hg, hy0, Int.lt_trans hy1 (by decide), by omega⟩ (Int.emod_nonneg _ (by omega)) (Int.emod_lt_of_pos _ h0)
theorem ok_pick (D : DefAt K mg "_law_pick" s_law_pick ["_law_bag_here", "_law_items"]) (c__law_draw : CalG P w K mg base 1 "_law_draw" spDraw) (b_len : mg "len" = none) : CalG P w K mg base 2 "_law_pick" spPick := by
  have sc := scP
  refine def_ok D sc (fun vs H Q E h => ?_) fun f cdv A outer s H vs Q E gA hr h => ?_
  · obtain ⟨b, v, ds, rfl, _⟩ := h
    rfl
  obtain ⟨b, v, ds, rfl, hb, hd, hne, hl, q⟩ := h
  obtain ⟨a, xs, rfl, ha, hx⟩ := hd.lst_inv
  have elen := hx.length
  have hpos : 0 < ds.length := List.length_pos_iff.mpr hne
  refine ⟨_, (pss_one (ps_ret (pe_ix ix_list (pv 1) (pe_cg c__law_draw gA hr (by omega) (by rfl) (pa_cons (pv 0) (pa_cons (pe_callB (call_len_seq) (by rfl) b_len PySem.boot_len (pa_cons (pv 1) pa_nil)) pa_nil))) (fun _ _ => rfl)))), ?_⟩
  refine ⟨_, rfl, _, rfl, _, rfl, a, xs, rfl, .inl (SqL.of (off_same _ _ ha)), b, _, rfl, hb, by omega, by omega, fun i H1 k1 b1 i0 i1 => ?_⟩
  have hi : i.toNat < ds.length := by omega
  obtain ⟨x, hx1, hdx⟩ := hx.get (i := i.toNat) (List.getElem?_eq_getElem hi)
  have ei : i = ((i.toNat : Nat) : Int) := by omega
  refine ⟨a, xs, i, x, rfl, rfl, SqL.of (off_same _ _ (k1 _ _ ha)), ?_, q x _ H1 k1 b1 (List.getElem_mem hi) (hdx.same k1)⟩
  rw [ei]
  exact atI_nat hx1
end
end K01

namespace K01
open PySem L2 VK
theorem ht_le (d : PyData) : htD d ≤ d.depth := by
  induction d using partsD.induct with
  | case1 a b c ih1 ih2 =>
    rw [show htD (.tuple [a, b, c]) = 1 + max (htD b) (htD c) by rw [htD]]
    simp only [PyData.depth, PyData.depthAll]
    omega
  | case2 d h =>
    have e : htD d = 0 := by
      rw [htD]
      intro a b c e
      exact h a b c e
    rw [e]
    exact Nat.zero_le _
theorem parts_le (d : PyData) : (partsD d).length ≤ d.shown.length + 1 := by
  induction d using partsD.induct with
  | case1 a b c ih1 ih2 =>
    rw [partsD, List.length_cons, List.length_append]
    simp only [PyData.shown, PyData.shownAll]
    rw [len_tup3]
    omega
  | case2 d h =>
    have e : partsD d = [d] := by
      rw [partsD]
      intro a b c e
      exact h a b c e
    rw [e]
    exact Nat.le_add_left _ _
theorem word_mem {d : PyData} (h : d ∈ [PyData.str "with", .str "behind", .str "ahead"]) : ∃ x, d = .str x ∧ isWord x = true ∧ Fit 0 8 d := by
  simp only [List.mem_cons, List.not_mem_nil, or_false] at h
  rcases h with rfl | rfl | rfl
  · exact ⟨_, rfl, by decide +kernel, fit_of (by decide +kernel)⟩
  · exact ⟨_, rfl, by decide +kernel, fit_of (by decide +kernel)⟩
  · exact ⟨_, rfl, by decide +kernel, fit_of (by decide +kernel)⟩
theorem none_trip {n : Int} {x : Str} {a b : PyData} (hx : isWord x = true) (ha : wordD n a = none) (hb : wordD n b = none) : wordD n (.tuple [.str x, a, b]) = none := by
  rw [word_trip, ha, hb, show headErr (.str x) = none from if_pos hx]
  rfl
theorem none_int {n i : Int} (h0 : 0 ≤ i) (h1 : i < n) : wordD n (.int i) = none := by
  rw [word_int, partErr, if_pos ⟨h0, h1⟩]
abbrev s_law_odd : Stmt := top 14
abbrev s_law_formula : Stmt := top 15
abbrev s_law_great : Stmt := top 20
theorem scO : FnScope ["_law_bag_here", "_law_some"] ["_law_bag_here"] (defScope s_law_odd) := ⟨rfl, rfl, rfl, by decide +kernel, rfl, by decide +kernel, by decide +kernel⟩
theorem scF : FnScope ["_law_bag_here", "_law_names", "_law_deep", "_law_word"] ["_law_bag_here", "_law_names", "_law_deep"] (defScope s_law_formula) := ⟨rfl, rfl, rfl, by decide +kernel, rfl, by decide +kernel, by decide +kernel⟩
theorem scG : FnScope ["_law_bag_here", "_law_names", "_law_many", "_law_found", "_law_turn", "_law_word", "_law_own"] ["_law_bag_here", "_law_names", "_law_many"] (defScope s_law_great) := ⟨rfl, rfl, rfl, by decide +kernel, rfl, by decide +kernel, by decide +kernel⟩
def spOdd : Sp := fun vs H Q _ => ∃ b, vs = [.ref b] ∧ BagAt b H ∧ ∀ r d H', Keep b H H' → BagAt b H' → Da (off b H') r d → Fit 3 70 d → Q r H'
def spFormula (k : Nat) : Sp := fun vs H Q _ => ∃ b n, ∃ j : Nat, vs = [.ref b, .int n, .int (j : Int)] ∧ BagAt b H ∧ 1 ≤ n ∧ n ≤ 9 ∧ j < k ∧
  ∀ r d H', Keep b H H' → BagAt b H' → Da (off b H') r d → wordD n d = none → Fit j (40 * 2 ^ j - 20) d → Q r H'
def spGreat : Sp := fun vs H Q _ => ∃ b n, ∃ m : Nat, vs = [.ref b, .int n, .int (m : Int)] ∧ BagAt b H ∧ 1 ≤ n ∧ n ≤ 9 ∧ m ≤ 9 ∧
  ∀ r d H', Keep b H H' → BagAt b H' → Da (off b H') r d → wordD n d = none → Fit m (10 + 30 * m) d → Q r H'
section
variable {P : Program} {w : World} {K : PySem.W.Frag} {mg : Str → Option Value} {base : Heap}
theorem ok_odd (D : DefAt K mg "_law_odd" s_law_odd ["_law_bag_here"]) (c__law_pick : CalG P w K mg base 2 "_law_pick" spPick) : CalG P w K mg base 3 "_law_odd" spOdd := by
  have sc := scO
  refine def_ok D sc (fun vs H Q E h => ?_) fun f cdv A outer s H vs Q E gA hr h => ?_
  · obtain ⟨b, rfl, _⟩ := h
    rfl
  obtain ⟨b, rfl, hb, q⟩ := h
  refine ⟨_, (pss_cons (ps_set (i := 1) sc.nd rfl (.inl rfl) (pe_lit (ρ := []) (.lst (.cons .non (.cons .bl (.cons .bl (.cons .int (.cons .int (.cons (.neg .int) (.cons .int (.cons .int (.cons (.pow .int .int ⟨by decide, by decide, by decide⟩) (.cons .str (.cons .str (.cons .str (.cons (.tup .nil (Nat.le_of_ble_eq_true rfl)) (.cons (.lst .nil (Nat.le_of_ble_eq_true rfl)) (.cons (.tup (.cons .int .nil) (Nat.le_of_ble_eq_true rfl)) (.cons (.tup (.cons .int (.cons .int .nil)) (Nat.le_of_ble_eq_true rfl)) (.cons (.lst (.cons .int .nil) (Nat.le_of_ble_eq_true rfl)) (.cons (.tup (.cons .int (.cons .bl .nil)) (Nat.le_of_ble_eq_true rfl)) (.cons .dic0 .nil))))))))))))))))))) (Nat.le_of_ble_eq_true rfl))))
    (pss_one (ps_ret (pe_cg c__law_pick gA hr (by omega) (by rfl) (pa_cons (pv 0) (pa_cons (pe_op op_cat (pv 1) (pe_lit (ρ := []) (.lst (.cons (.tup (.cons (.lst .nil (Nat.le_of_ble_eq_true rfl)) .nil) (Nat.le_of_ble_eq_true rfl)) (.cons (.tup (.cons .non .nil) (Nat.le_of_ble_eq_true rfl)) (.cons (.tup (.cons (.tup (.cons .int (.cons .int (.cons .int .nil))) (Nat.le_of_ble_eq_true rfl)) .nil) (Nat.le_of_ble_eq_true rfl)) (.cons (.tup (.cons .int (.cons .int (.cons .int .nil))) (Nat.le_of_ble_eq_true rfl)) (.cons (.tup (.cons .str (.cons .int (.cons .int .nil))) (Nat.le_of_ble_eq_true rfl)) (.cons (.tup (.cons .str (.cons .int .nil)) (Nat.le_of_ble_eq_true rfl)) (.cons (.dic1 .int) (.cons (.tup (.cons (.neg .int) (.cons .int .nil)) (Nat.le_of_ble_eq_true rfl)) (.cons (.tup (.cons (.tup (.cons .int .nil) (Nat.le_of_ble_eq_true rfl)) .nil) (Nat.le_of_ble_eq_true rfl)) .nil))))))))) (Nat.le_of_ble_eq_true rfl)))) pa_nil)))))), ?_⟩
  refine ⟨off b H, off_same, (fun _ z => nomatch z), fun v1 H1 s1 d1 => ?_⟩
  obtain ⟨l1, xs1, rfl, e1, x1⟩ := (lit_off hb s1 d1).lst_inv
  refine ⟨_, rfl, _, rfl, off b H1, off_same, (fun _ z => nomatch z), fun v2 H2 s2 d2 => ?_⟩
  have hb1 := hb.same s1
  have hb2 := hb1.same s2
  obtain ⟨l2, xs2, rfl, e2, x2⟩ := (lit_off hb1 s2 d2).lst_inv
  refine ⟨l1, l2, xs1, xs2, rfl, rfl, s2 _ _ (off_same _ _ e1), off_same _ _ e2, ?_, fun p np => ?_⟩
  · rw [x1.length, x2.length]
    exact Nat.le_of_lt (small1000 (Nat.le_of_ble_eq_true rfl))
  refine ⟨b, .ref p, _, rfl, hb2.same (same_new np), .lst (off_new hb2 np) (((x1.same (Keep.of s2)).append x2).same (Keep.of (same_new np))), (by simp), Nat.le_of_ble_eq_true rfl, fun r d H' k' b' hm hd => ?_⟩
  exact q r d H' (((Keep.of s1).trans (Keep.of s2)).trans ((Keep.of (same_new np)).trans k')) b' hd (fit_all (by decide +kernel) d hm)
theorem pow_pos2 (j : Nat) : 1 ≤ 2 ^ j := Nat.one_le_two_pow
theorem ok_formula (D : DefAt K mg "_law_formula" s_law_formula ["_law_bag_here", "_law_names", "_law_deep"]) (c__law_pick : CalG P w K mg base 2 "_law_pick" spPick) (c__law_draw : CalG P w K mg base 1 "_law_draw" spDraw) : ∀ k : Nat, CalG P w K mg base (k + 2) "_law_formula" (spFormula k)
  | 0 => by
    obtain ⟨f, fd, F, b, m⟩ := D.ex
    exact ⟨f, fd, _, ⟨fun vs H Q E z => by obtain ⟨_, _, _, _, _, _, _, z, _⟩ := z; omega, fun _ _ _ _ _ z => by obtain ⟨_, _, _, _, _, _, _, z, _⟩ := z; omega⟩, m, F.kp, b⟩
  | k + 1 => by
    have c__law_formula := ok_formula D c__law_pick c__law_draw k
    have sc := scF
    refine def_ok D sc (fun vs H Q E h => ?_) fun f cdv A outer s H vs Q E gA hr h => ?_
    · obtain ⟨b, n, j, rfl, _⟩ := h
      rfl
    obtain ⟨b, n, j, rfl, hb, hn1, hn9, hj, q⟩ := h
    refine ⟨_, (pss_cons (ps_if (PW.pt (pw_or (pt_cmpR op_eq (pv 2) pe_int (nomark _)) (pw_or1 (pt_cmpR op_eq (pe_cg c__law_draw gA hr (by omega) (by rfl) (pa_cons (pv 0) (pa_cons pe_int pa_nil))) pe_int (nomark _))))) (pss_one (ps_ret (pe_cg c__law_draw gA hr (by omega) (by rfl) (pa_cons (pv 0) (pa_cons (pv 1) pa_nil))))) pss_nil)
    (pss_cons (ps_set (i := 3) sc.nd rfl (.inl rfl) (pe_cg c__law_pick gA hr (by omega) (by rfl) (pa_cons (pv 0) (pa_cons (pe_lit (ρ := []) (.lst (.cons .str (.cons .str (.cons .str .nil))) (Nat.le_of_ble_eq_true rfl))) pa_nil))))
    (pss_one (ps_ret (pe_tup (pa_cons (pv 3) (pa_cons (pe_cg c__law_formula gA hr (by omega) (by rfl) (pa_cons (pv 0) (pa_cons (pv 1) (pa_cons (pe_op op_sub (pv 2) pe_int) pa_nil)))) (pa_cons (pe_cg c__law_formula gA hr (by omega) (by rfl) (pa_cons (pv 0) (pa_cons (pv 1) (pa_cons (pe_op op_sub (pv 2) pe_int) pa_nil)))) pa_nil)))))))), ?_⟩
    have p2 := pow_pos2 j
    have leaf : ∀ H1, Keep b H H1 → BagAt b H1 → ∀ d H', Keep b H1 H' → BagAt b H' → 0 ≤ d → d < n → Q (.int d) H' := fun H1 k1 b1 d H' k' b' h0 h1 => by
      refine q _ (.int d) H' (k1.trans k') b' (.int d) (none_int h0 h1) ((fit_int h0 (by omega)).mono (Nat.zero_le _) ?_)
      omega
    refine ⟨_, rfl, rfl, _, rfl, ?_⟩
    refine ite2 (fun c => ?_) (fun c => ?_)
    · exact iteT ⟨_, rfl, _, rfl, b, n, rfl, hb, by omega, by omega, leaf H (Keep.refl b H) hb⟩
    · have hj0 : j ≠ 0 := fun z => c (by rw [z]; rfl)
      refine ⟨_, rfl, b, 4, rfl, hb, by decide, by decide, fun d1 H1 k1 b1 _ _ => ⟨rfl, _, rfl, ?_⟩⟩
      refine ite2 (fun c2 => ?_) (fun c2 => ?_)
      · exact ⟨_, rfl, _, rfl, b, n, rfl, b1, by omega, by omega, leaf H1 k1 b1⟩
      · refine ⟨_, rfl, off b H1, off_same, (fun _ z => nomatch z), fun v2 H2 s2 d2 => ?_⟩
        have b2 := b1.same s2
        refine ⟨b, v2, _, rfl, b2, lit_off b1 s2 d2, (by simp), Nat.le_of_ble_eq_true rfl, fun r dw H3 k3 b3 hm hd => ?_⟩
        obtain ⟨x, rfl, hx, fx⟩ := word_mem hm
        obtain rfl := hd.str_inv
        have ej : (j : Int) - 1 = ((j - 1 : Nat) : Int) := by omega
        refine ⟨_, rfl, _, rfl, _, rfl, _, rfl, _, _, rfl, rfl, b, n, j - 1, (by show [V.ref b, .int n, .int ((j : Int) - 1)] = _; rw [ej]), b3, hn1, hn9, by omega, fun r1 e1 H4 k4 b4 x4 w4 f4 => ?_⟩
        refine ⟨_, rfl, _, rfl, _, rfl, _, _, rfl, rfl, b, n, j - 1, (by show [V.ref b, .int n, .int ((j : Int) - 1)] = _; rw [ej]), b4, hn1, hn9, by omega, fun r2 e2 H5 k5 b5 x5 w5 f5 => ?_⟩
        refine ⟨(by show 3 ≤ sizeLine; decide), fun p np => ?_⟩
        have kp : Keep b H5 (upd H5 p (.tup [.str x, r1, r2])) := Keep.of (same_new np)
        refine q (.ref p) (.tuple [.str x, e1, e2]) _ (((((k1.trans (Keep.of s2)).trans k3).trans k4).trans k5).trans kp) (b5.same (same_new np)) (.tup (off_new b5 np) (.cons (.str x) (.cons ((x4.same k5).same kp) (.cons (x5.same kp) .nil)))) (none_trip hx w4 w5) ?_
        have ft := Fit.tup3 (fx.mono (Nat.zero_le (j - 1)) (Nat.le_refl _)) f4 f5
        have e3 : 2 ^ j = 2 * 2 ^ (j - 1) := by
          have e4 : j = (j - 1) + 1 := by omega
          rw [e4, Nat.pow_succ, Nat.add_sub_cancel]
          omega
        have p3 := pow_pos2 (j - 1)
        exact ft.mono (by omega) (by omega)
theorem ok_great (D : DefAt K mg "_law_great" s_law_great ["_law_bag_here", "_law_names", "_law_many"]) (c__law_pick : CalG P w K mg base 2 "_law_pick" spPick) (c__law_draw : CalG P w K mg base 1 "_law_draw" spDraw) (b_range : mg "range" = none) : CalG P w K mg base 3 "_law_great" spGreat := by
  have sc := scG
  refine def_ok D sc (fun vs H Q E h => ?_) fun f cdv A outer s H vs Q E gA hr h => ?_
  · obtain ⟨b, n, m, rfl, _⟩ := h
    rfl
  obtain ⟨b, n, m, rfl, hb, hn1, hn9, hm, q⟩ := h
  refine ⟨_, (pss_cons (ps_set (i := 3) sc.nd rfl (.inl rfl) (pe_cg c__law_draw gA hr (by omega) (by rfl) (pa_cons (pv 0) (pa_cons (pv 1) pa_nil))))
    (pss_cons (ps_for PassesOwn.never rfl (pi_range1 rfl b_range (pa_cons (pv 2) pa_nil)) (pg_name (i := 4) sc.nd rfl (.inl rfl)) (pss_cons (ps_par (i := 5) (j := 6) rfl sc.nd rfl rfl (by decide) rfl rfl (pa_cons (pe_cg c__law_pick gA hr (by omega) (by rfl) (pa_cons (pv 0) (pa_cons (pe_lit (ρ := []) (.lst (.cons .str (.cons .str (.cons .str .nil))) (Nat.le_of_ble_eq_true rfl))) pa_nil))) (pa_cons (pe_cg c__law_draw gA hr (by omega) (by rfl) (pa_cons (pv 0) (pa_cons (pv 1) pa_nil))) pa_nil)) (by rfl))
    (pss_one (ps_set (i := 3) sc.nd rfl (.inl rfl) (pe_ifExp (pt_cmpR op_eq (pe_cg c__law_draw gA hr (by omega) (by rfl) (pa_cons (pv 0) (pa_cons pe_int pa_nil))) pe_int (nomark _)) (pe_tup (pa_cons (pv 5) (pa_cons (pv 3) (pa_cons (pv 6) pa_nil)))) (pe_tup (pa_cons (pv 5) (pa_cons (pv 6) (pa_cons (pv 3) pa_nil)))))))))
    (pss_one (ps_ret (pv 3))))), ?_⟩
  refine ⟨_, rfl, _, rfl, b, n, rfl, hb, by omega, by omega, fun d1 H1 k1 b1 h0 h1 => ?_⟩
  refine ⟨_, rfl, _, rfl, by omega, by omega, for_range (n := m) (fun i σ Hc => ∃ r d y4 y5 y6, σ = [some (.ref b), some (.int n), some (.int (m : Int)), some r, y4, y5, y6] ∧ Keep b H Hc ∧ BagAt b Hc ∧ Da (off b Hc) r d ∧ wordD n d = none ∧ Fit i (10 + 30 * i) d)
    ⟨_, .int d1, none, none, none, rfl, k1, b1, .int d1, none_int h0 h1, (fit_int h0 (by omega)).mono (Nat.le_refl _) (by omega)⟩ (fun i σ Hc hi hp => ?_) (fun σ Hc hp => ?_)⟩
  · obtain ⟨r, d, y4, y5, y6, rfl, kc, bc, xc, wc, fc⟩ := hp
    refine ⟨_, rfl, off b Hc, off_same, (fun _ z => nomatch z), fun v2 H2 s2 d2 => ?_⟩
    have b2 := bc.same s2
    refine ⟨b, v2, _, rfl, b2, lit_off bc s2 d2, (by simp), Nat.le_of_ble_eq_true rfl, fun rw_ dw H3 k3 b3 hm hd => ?_⟩
    obtain ⟨x, rfl, hx, fx⟩ := word_mem hm
    obtain rfl := hd.str_inv
    refine ⟨_, rfl, _, rfl, b, n, rfl, b3, by omega, by omega, fun o H4 k4 b4 o0 o1 => ?_⟩
    refine ⟨_, _, rfl, ?_⟩
    refine ⟨_, rfl, b, 2, rfl, b4, by decide, by decide, fun e H5 k5 b5 _ _ => ⟨rfl, _, rfl, ?_⟩⟩
    have k15 : Keep b Hc H5 := (((Keep.of s2).trans k3).trans k4).trans k5
    have fo := (fit_int o0 (by omega)).mono (Nat.zero_le i) (Nat.le_refl 2)
    have fx' := fx.mono (Nat.zero_le i) (Nat.le_refl 8)
    refine ite2 (fun c => ?_) (fun c => ?_)
    · refine ⟨_, rfl, _, rfl, _, rfl, (by show 3 ≤ sizeLine; decide), fun p np => ?_⟩
      have kp : Keep b H5 (upd H5 p (.tup [.str x, r, .int o])) := Keep.of (same_new np)
      refine ⟨.ref p, .tuple [.str x, d, .int o], _, _, _, rfl, (kc.trans k15).trans kp, b5.same (same_new np), .tup (off_new b5 np) (.cons (.str x) (.cons ((xc.same k15).same kp) (.cons (.int o) .nil))), none_trip hx wc (none_int o0 o1), (Fit.tup3 fx' fc fo).mono (Nat.le_refl _) (by omega)⟩
    · refine ⟨_, rfl, _, rfl, _, rfl, (by show 3 ≤ sizeLine; decide), fun p np => ?_⟩
      have kp : Keep b H5 (upd H5 p (.tup [.str x, .int o, r])) := Keep.of (same_new np)
      refine ⟨.ref p, .tuple [.str x, .int o, d], _, _, _, rfl, (kc.trans k15).trans kp, b5.same (same_new np), .tup (off_new b5 np) (.cons (.str x) (.cons (.int o) (.cons ((xc.same k15).same kp) .nil))), none_trip hx (none_int o0 o1) wc, (Fit.tup3 fx' fo fc).mono (Nat.le_refl _) (by omega)⟩
  · obtain ⟨r, d, y4, y5, y6, rfl, kc, bc, xc, wc, fc⟩ := hp
    exact ⟨_, rfl, q r d Hc kc bc xc wc fc⟩
end
end K01

namespace K01
open PySem L2 VK
abbrev s_law_bent : Stmt := top 19
theorem scBe : FnScope ["_law_bag_here", "_law_names", "_law_formula_here", "_law_some", "_law_word", "_law_one", "_law_other"] ["_law_bag_here", "_law_names", "_law_formula_here"] (defScope s_law_bent) := ⟨rfl, rfl, rfl, by decide +kernel, rfl, by decide +kernel, by decide +kernel⟩
theorem da3 {H : Hp} {xs : List V} {a b c : PyData} (h : DaAll H xs [a, b, c]) : ∃ x y z, xs = [x, y, z] ∧ Da H x a ∧ Da H y b ∧ Da H z c := by
  cases h with
  | cons h1 r =>
    cases r with
    | cons h2 r =>
      cases r with
      | cons h3 r =>
        cases r
        exact ⟨_, _, _, rfl, h1, h2, h3⟩
def spBent (k : Nat) : Sp := fun vs H Q _ => ∃ b n v d, ∃ h L : Nat, vs = [.ref b, .int n, v] ∧ BagAt b H ∧ 1 ≤ n ∧ n ≤ 9 ∧ Da (off b H) v d ∧ (∃ n', wordD n' d = none) ∧ htD d < k ∧ d.depth ≤ h ∧ d.shown.length ≤ L ∧ Fit h L d ∧
  ∀ r d' H', Keep b H H' → BagAt b H' → Da (off b H') r d' → Fit (d.depth + 4) (d.shown.length + 80) d' → Q r H'
section
variable {P : Program} {w : World} {K : PySem.W.Frag} {mg : Str → Option Value} {base : Heap}
theorem ok_bent (D : DefAt K mg "_law_bent" s_law_bent ["_law_bag_here", "_law_names", "_law_formula_here"]) (c__law_pick : CalG P w K mg base 2 "_law_pick" spPick) (c__law_draw : CalG P w K mg base 1 "_law_draw" spDraw) (c__law_odd : CalG P w K mg base 3 "_law_odd" spOdd) (b_isinstance : mg "isinstance" = none) (b_int : mg "int" = none) :
    ∀ k : Nat, CalG P w K mg base (k + 4) "_law_bent" (spBent k)
  | 0 => by
    obtain ⟨f, fd, F, b, m⟩ := D.ex
    exact ⟨f, fd, _, ⟨fun vs H Q E z => by obtain ⟨_, _, _, _, _, _, _, _, _, _, _, _, z, _⟩ := z; omega, fun _ _ _ _ _ z => by obtain ⟨_, _, _, _, _, _, _, _, _, _, _, _, z, _⟩ := z; omega⟩, m, F.kp, b⟩
  | k + 1 => by
    have c__law_bent := ok_bent D c__law_pick c__law_draw c__law_odd b_isinstance b_int k
    have sc := scBe
    refine def_ok D sc (fun vs H Q E h => ?_) fun f cdv A outer s H vs Q E gA hr h => ?_
    · obtain ⟨b, n, v, d, h, L, rfl, _⟩ := h
      rfl
    obtain ⟨b, n, v, d, h, L, rfl, hb, hn1, hn9, hd, ⟨n', hw⟩, hk, hdp, hln, hf, q⟩ := h
    have hold : ∀ (σ : L2.St) (G : Hp), σ[1]? = some (some (.int n)) → Holds1 [(1, .int n)] σ G := fun σ G e p hp => by
      rw [List.mem_singleton] at hp
      subst hp
      exact ⟨_, e, .int n⟩
    have fn := (fit_int (i := n) (by omega) (by omega)).mono (Nat.zero_le 3) (show 2 ≤ 70 by decide)
    have fn1 := (fit_int (i := n - 1) (by omega) (by omega)).mono (Nat.zero_le 3) (show 2 ≤ 70 by decide)
    have fb : Fit 3 70 (.tuple [.str "behind", .int 0, .int n]) := (Fit.tup3 (h := 0) (fit_of (L := 8) (by decide +kernel)) (fit_of (L := 1) (by decide +kernel)) (fit_int (i := n) (by omega) (by omega))).mono (by decide) (by decide)
    refine ⟨_, (pss_cons (ps_if (PW.pt (pw_or (pt_val (pe_callB (call_isD) (by rfl) b_isinstance (by decide +kernel) (pa_cons (pv 2) (pa_cons (pe_bltn (v := .ty "int") (by rfl) b_int (by decide +kernel) rfl) pa_nil)))) (pw_or1 (pt_cmpR op_eq (pe_cg c__law_draw gA hr (by omega) (by rfl) (pa_cons (pv 0) (pa_cons pe_int pa_nil))) pe_int (nomark _))))) (pss_cons (ps_set (i := 3) sc.nd rfl (.inl rfl) (pe_lit (ρ := [(1, .int n)]) (.lst (.cons (.var 1 rfl (.inl rfl) (.head _) (by decide) (by decide)) (.cons (.neg .int) (.cons .bl (.cons .non (.cons .str (.cons (.tup .nil (Nat.le_of_ble_eq_true rfl)) (.cons (.tup (.cons .str (.cons .int .nil)) (Nat.le_of_ble_eq_true rfl)) (.cons (.tup (.cons .str (.cons .int (.cons .int (.cons .int .nil)))) (Nat.le_of_ble_eq_true rfl)) (.cons (.lst (.cons .str (.cons .int (.cons .int .nil))) (Nat.le_of_ble_eq_true rfl)) (.cons (.tup (.cons .str (.cons .int (.cons .int .nil))) (Nat.le_of_ble_eq_true rfl)) (.cons (.tup (.cons .int (.cons .int (.cons .int .nil))) (Nat.le_of_ble_eq_true rfl)) .nil))))))))))) (Nat.le_of_ble_eq_true rfl))))
    (pss_one (ps_ret (pe_cg c__law_pick gA hr (by omega) (by rfl) (pa_cons (pv 0) (pa_cons (pe_op op_cat (pv 3) (pe_lst (pa_cons (pe_lit (ρ := [(1, .int n)]) (.tup (.cons .str (.cons .int (.cons .non .nil))) (Nat.le_of_ble_eq_true rfl))) (pa_cons (pe_lit (ρ := [(1, .int n)]) (.tup (.cons .non (.cons .int (.cons .int .nil))) (Nat.le_of_ble_eq_true rfl))) (pa_cons (pe_op op_sub (pv 1) pe_int) (pa_cons (pe_lit (ρ := [(1, .int n)]) (.tup (.cons .str (.cons .int (.cons (.var 1 rfl (.inl rfl) (.head _) (by decide) (by decide)) .nil))) (Nat.le_of_ble_eq_true rfl))) (pa_cons (pe_lit (ρ := [(1, .int n)]) (.tup (.cons .str (.cons (.tup .nil (Nat.le_of_ble_eq_true rfl)) (.cons .int .nil))) (Nat.le_of_ble_eq_true rfl))) (pa_cons (pe_cg c__law_odd gA hr (by omega) (by rfl) (pa_cons (pv 0) pa_nil)) pa_nil)))))))) pa_nil)))))) pss_nil)
    (pss_cons (ps_asg (pv 2) (pg_tup rfl (pgs_cons (pg_name (i := 4) sc.nd rfl (.inl rfl)) (pgs_cons (pg_name (i := 5) sc.nd rfl (.inl rfl)) (pgs_cons (pg_name (i := 6) sc.nd rfl (.inl rfl)) pgs_nil)))))
    (pss_cons (ps_if (pt_cmpR op_eq (pe_cg c__law_draw gA hr (by omega) (by rfl) (pa_cons (pv 0) (pa_cons pe_int pa_nil))) pe_int (nomark _)) (pss_one (ps_ret (pe_tup (pa_cons (pv 4) (pa_cons (pe_cg c__law_bent gA hr (by omega) (by rfl) (pa_cons (pv 0) (pa_cons (pv 1) (pa_cons (pv 5) pa_nil)))) (pa_cons (pv 6) pa_nil)))))) pss_nil)
    (pss_one (ps_ret (pe_tup (pa_cons (pv 4) (pa_cons (pv 5) (pa_cons (pe_cg c__law_bent gA hr (by omega) (by rfl) (pa_cons (pv 0) (pa_cons (pv 1) (pa_cons (pv 6) pa_nil)))) pa_nil))))))))), ?_⟩
    by_cases hi : isW d = true
    · cases d <;> try (cases hi)
      refine ⟨_, rfl, _, _, _, _, rfl, hd.same off_same, kit_int _, _, rfl, iteT (iteT ?_)⟩
      · skip
        refine ⟨off b H, off_same, hold _ _ rfl, fun v1 H1 s1 d1 => ?_⟩
        have b1 := hb.same s1
        obtain ⟨l1, xs1, rfl, e1, x1⟩ := (lit_off hb s1 d1).lst_inv
        refine ⟨_, rfl, _, rfl, off b H1, off_same, hold _ _ rfl, fun v2 H2 s2 d2 => ?_⟩
        have b2 := b1.same s2
        have e2 := lit_off b1 s2 d2
        refine ⟨off b H2, off_same, hold _ _ rfl, fun v3 H3 s3 d3 => ?_⟩
        have b3 := b2.same s3
        have e3 := lit_off b2 s3 d3
        refine ⟨_, rfl, _, _, rfl, rfl, off b H3, off_same, hold _ _ rfl, fun v4 H4 s4 d4 => ?_⟩
        have b4 := b3.same s4
        have e4 := lit_off b3 s4 d4
        refine ⟨off b H4, off_same, hold _ _ rfl, fun v5 H5 s5 d5 => ?_⟩
        have b5 := b4.same s5
        have e5 := lit_off b4 s5 d5
        refine ⟨_, rfl, b, rfl, b5, fun o od H6 k6 b6 xo fo => ?_⟩
        have s25 : Keep b H1 H6 := ((((Keep.of s2).trans (Keep.of s3)).trans (Keep.of s4)).trans (Keep.of s5)).trans k6
        have s35 : Keep b H2 H6 := (((Keep.of s3).trans (Keep.of s4)).trans (Keep.of s5)).trans k6
        have s45 : Keep b H3 H6 := ((Keep.of s4).trans (Keep.of s5)).trans k6
        have s55 : Keep b H4 H6 := (Keep.of s5).trans k6
        refine ⟨(by show 6 ≤ sizeLine; decide), fun p6 np6 => ?_⟩
        have s7 := Keep.of (b := b) (same_new (o := .lst [v2, v3, V.int (n - 1), v4, v5, o]) np6)
        have b7 := b6.same (same_new (o := .lst [v2, v3, V.int (n - 1), v4, v5, o]) np6)
        refine ⟨l1, p6, xs1, _, rfl, rfl, off_same _ _ (s7 _ _ (s25 _ _ e1)), upd_same, ?_, fun p np => ?_⟩
        · rw [x1.length]
          exact Nat.le_of_lt (small1000 (Nat.le_of_ble_eq_true rfl))
        refine ⟨b, .ref p, _, rfl, b7.same (same_new np), .lst (off_new b7 np) (((x1.same (s25.trans s7)).append (.cons (e2.same (s35.trans s7)) (.cons (e3.same (s45.trans s7)) (.cons (.int (n - 1)) (.cons (e4.same (s55.trans s7)) (.cons (e5.same (k6.trans s7)) (.cons (xo.same s7) .nil))))))).same (Keep.of (same_new np))), (by simp), Nat.le_of_ble_eq_true rfl, fun r dz Hz kz bz hm hdz => ?_⟩
        refine q r dz Hz (((((Keep.refl b H).trans (Keep.of s1)).trans s25).trans s7).trans ((Keep.of (same_new np)).trans kz)) bz hdz ?_
        have ff : Fit 3 70 dz := by
          rcases List.mem_append.mp hm with z | z
          · simp only [List.mem_cons, List.not_mem_nil, or_false] at z
            rcases z with rfl | rfl | rfl | rfl | rfl | rfl | rfl | rfl | rfl | rfl | rfl
            · exact fn
            all_goals exact fit_of (by decide +kernel)
          · simp only [List.mem_cons, List.not_mem_nil, or_false] at z
            rcases z with rfl | rfl | rfl | rfl | rfl | rfl
            · exact fit_of (by decide +kernel)
            · exact fit_of (by decide +kernel)
            · exact fn1
            · exact fb
            · exact fit_of (by decide +kernel)
            · exact fo
        exact ff.mono (by omega) (by omega)
    · rcases word_cases hw with ⟨i, rfl⟩ | ⟨x, c1, c2, rfl, w1, w2⟩
      · exact (hi rfl).elim
      refine ⟨_, rfl, _, _, _, _, rfl, hd.same off_same, kit_int _, _, rfl, iteF ?_⟩
      refine ⟨_, rfl, b, 3, rfl, hb, by decide, by decide, fun g H0 k0 b0 _ _ => ⟨rfl, _, rfl, ?_⟩⟩
      refine ite2 (fun cz => ?_) (fun cz => ?_)
      · skip
        refine ⟨off b H0, off_same, hold _ _ rfl, fun v1 H1 s1 d1 => ?_⟩
        have b1 := b0.same s1
        obtain ⟨l1, xs1, rfl, e1, x1⟩ := (lit_off b0 s1 d1).lst_inv
        refine ⟨_, rfl, _, rfl, off b H1, off_same, hold _ _ rfl, fun v2 H2 s2 d2 => ?_⟩
        have b2 := b1.same s2
        have e2 := lit_off b1 s2 d2
        refine ⟨off b H2, off_same, hold _ _ rfl, fun v3 H3 s3 d3 => ?_⟩
        have b3 := b2.same s3
        have e3 := lit_off b2 s3 d3
        refine ⟨_, rfl, _, _, rfl, rfl, off b H3, off_same, hold _ _ rfl, fun v4 H4 s4 d4 => ?_⟩
        have b4 := b3.same s4
        have e4 := lit_off b3 s4 d4
        refine ⟨off b H4, off_same, hold _ _ rfl, fun v5 H5 s5 d5 => ?_⟩
        have b5 := b4.same s5
        have e5 := lit_off b4 s5 d5
        refine ⟨_, rfl, b, rfl, b5, fun o od H6 k6 b6 xo fo => ?_⟩
        have s25 : Keep b H1 H6 := ((((Keep.of s2).trans (Keep.of s3)).trans (Keep.of s4)).trans (Keep.of s5)).trans k6
        have s35 : Keep b H2 H6 := (((Keep.of s3).trans (Keep.of s4)).trans (Keep.of s5)).trans k6
        have s45 : Keep b H3 H6 := ((Keep.of s4).trans (Keep.of s5)).trans k6
        have s55 : Keep b H4 H6 := (Keep.of s5).trans k6
        refine ⟨(by show 6 ≤ sizeLine; decide), fun p6 np6 => ?_⟩
        have s7 := Keep.of (b := b) (same_new (o := .lst [v2, v3, V.int (n - 1), v4, v5, o]) np6)
        have b7 := b6.same (same_new (o := .lst [v2, v3, V.int (n - 1), v4, v5, o]) np6)
        refine ⟨l1, p6, xs1, _, rfl, rfl, off_same _ _ (s7 _ _ (s25 _ _ e1)), upd_same, ?_, fun p np => ?_⟩
        · rw [x1.length]
          exact Nat.le_of_lt (small1000 (Nat.le_of_ble_eq_true rfl))
        refine ⟨b, .ref p, _, rfl, b7.same (same_new np), .lst (off_new b7 np) (((x1.same (s25.trans s7)).append (.cons (e2.same (s35.trans s7)) (.cons (e3.same (s45.trans s7)) (.cons (.int (n - 1)) (.cons (e4.same (s55.trans s7)) (.cons (e5.same (k6.trans s7)) (.cons (xo.same s7) .nil))))))).same (Keep.of (same_new np))), (by simp), Nat.le_of_ble_eq_true rfl, fun r dz Hz kz bz hm hdz => ?_⟩
        refine q r dz Hz ((((k0.trans (Keep.of s1)).trans s25).trans s7).trans ((Keep.of (same_new np)).trans kz)) bz hdz ?_
        have ff : Fit 3 70 dz := by
          rcases List.mem_append.mp hm with z | z
          · simp only [List.mem_cons, List.not_mem_nil, or_false] at z
            rcases z with rfl | rfl | rfl | rfl | rfl | rfl | rfl | rfl | rfl | rfl | rfl
            · exact fn
            all_goals exact fit_of (by decide +kernel)
          · simp only [List.mem_cons, List.not_mem_nil, or_false] at z
            rcases z with rfl | rfl | rfl | rfl | rfl | rfl
            · exact fit_of (by decide +kernel)
            · exact fit_of (by decide +kernel)
            · exact fn1
            · exact fb
            · exact fit_of (by decide +kernel)
            · exact fo
        exact ff.mono (by omega) (by omega)
      · obtain ⟨t, xs, rfl, et, hxs⟩ := (hd.same k0).tup_inv
        obtain ⟨y0, y1, y2, rfl, a0, a1, a2⟩ := da3 hxs
        obtain rfl := a0.str_inv
        have hh := ht_trip (.str x) c1 c2
        have dd : (PyData.tuple [.str x, c1, c2]).depth = max (PyData.str x).depth (max c1.depth (max c2.depth 0)) + 1 := by simp only [PyData.depth, PyData.depthAll]
        have ll : (PyData.tuple [.str x, c1, c2]).shown.length = (PyData.str x).shown.length + c1.shown.length + c2.shown.length + 6 := by
          show (tupleText (PyData.shownAll [.str x, c1, c2])).length = _
          rw [show PyData.shownAll [.str x, c1, c2] = [(PyData.str x).shown, c1.shown, c2.shown] by simp only [PyData.shownAll], len_tup3]
        obtain ⟨fw0, f1, f2⟩ := hf.parts
        have fw : Fit 0 ((PyData.str x).shown.length) (.str x) := fw0.mono (by simp only [PyData.depth]; exact Nat.le_refl _) (Nat.le_refl _)
        refine ⟨_, rfl, t, [.str x, y1, y2], rfl, SqT.of (off_same _ _ et), rfl, _, _, rfl, _, _, rfl, _, _, rfl, rfl, ?_⟩
        refine ⟨_, rfl, b, 2, rfl, b0, by decide, by decide, fun g2 H2 k2 b2 _ _ => ⟨rfl, _, rfl, ?_⟩⟩
        refine ite2 (fun cy => ?_) (fun cy => ?_)
        · refine ⟨_, rfl, _, rfl, _, rfl, _, rfl, b, n, y1, c1, c1.depth, c1.shown.length, rfl, b2, hn1, hn9, a1.same k2, ⟨n', w1⟩, by omega, Nat.le_refl _, Nat.le_refl _, f1, fun r d' H3 k3 b3 x3 f3 => ?_⟩
          refine ⟨_, rfl, (by show 3 ≤ sizeLine; decide), fun p np => ?_⟩
          have kp : Keep b H3 (upd H3 p (.tup [.str x, r, y2])) := Keep.of (same_new np)
          refine q (.ref p) (.tuple [.str x, d', c2]) _ (((k0.trans k2).trans k3).trans kp) (b3.same (same_new np)) (.tup (off_new b3 np) (.cons (.str x) (.cons (x3.same kp) (.cons (((a2.same k2).same k3).same kp) .nil)))) ?_
          have ft := Fit.tup3 (fw.mono (Nat.zero_le (max (c1.depth + 4) c2.depth)) (Nat.le_refl _)) (f3.mono (Nat.le_max_left _ _) (Nat.le_refl _)) (f2.mono (Nat.le_max_right _ _) (Nat.le_refl _))
          exact ft.mono (by omega) (by omega)
        · refine ⟨_, rfl, _, rfl, _, rfl, _, rfl, _, rfl, b, n, y2, c2, c2.depth, c2.shown.length, rfl, b2, hn1, hn9, a2.same k2, ⟨n', w2⟩, by omega, Nat.le_refl _, Nat.le_refl _, f2, fun r d' H3 k3 b3 x3 f3 => ?_⟩
          refine ⟨(by show 3 ≤ sizeLine; decide), fun p np => ?_⟩
          have kp : Keep b H3 (upd H3 p (.tup [.str x, y1, r])) := Keep.of (same_new np)
          refine q (.ref p) (.tuple [.str x, c1, d']) _ (((k0.trans k2).trans k3).trans kp) (b3.same (same_new np)) (.tup (off_new b3 np) (.cons (.str x) (.cons (((a1.same k2).same k3).same kp) (.cons (x3.same kp) .nil)))) ?_
          have ft := Fit.tup3 (fw.mono (Nat.zero_le (max (c2.depth + 4) c1.depth)) (Nat.le_refl _)) (f1.mono (Nat.le_max_right _ _) (Nat.le_refl _)) (f3.mono (Nat.le_max_left _ _) (Nat.le_refl _))
          exact ft.mono (by omega) (by omega)
end
end K01

namespace K01
open PySem L2 VK
abbrev slaw : Stmt := top 21
def lawN : List Str := ["_law_script", "_law_bag_here", "_law_turn", "_law_names", "_law_formula_here", "_law_some", "_law_value", "_law_shown", "_law_due", "_law_again"]
theorem scLaw : FnScope lawN ["_law_script"] (defScope slaw) := ⟨rfl, rfl, rfl, by decide +kernel, rfl, by decide +kernel, by decide +kernel⟩
def spLaw (K : PySem.W.Frag) : Sp := fun vs H Q _ => ∃ (a : Addr) (ns : List Int), vs = [.ref a] ∧ SqL K H a (ns.map V.int) ∧ ns.length ≤ 63 ∧ ∀ H', Q (.bl true) H'
def optD : Option Str → PyData
  | none => .none
  | some x => .str x
theorem da_opt {H : Hp} : ∀ e : Option Str, Da H (optV e) (optD e)
  | none => .non
  | some x => .str x
theorem head_low {d : PyData} {x : Str} (h : headErr d = some x) : x = ("word" : Str) := by
  cases d with
  | str y =>
    have h' : (if isWord y = true then none else some ("word" : Str)) = some x := h
    by_cases z : isWord y = true
    · rw [if_pos z] at h'
      cases h'
    · rw [if_neg z] at h'
      exact (Option.some.inj h').symm
  | _ => exact (Option.some.inj h).symm
theorem word_low {n : Int} : ∀ d : PyData, ∀ x : Str, wordD n d = some x → x = ("word" : Str) ∨ x = ("name" : Str) ∨ x = ("formula" : Str) := by
  intro d
  induction d using partsD.induct with
  | case1 a b c ih1 ih2 =>
    intro x h
    rw [word_trip] at h
    cases he : headErr a with
    | some y =>
      rw [he] at h
      have e : y = x := Option.some.inj h
      exact .inl (by rw [← e]; exact head_low he)
    | none =>
      rw [he] at h
      cases hb : wordD n b with
      | some y =>
        rw [hb] at h
        have e : y = x := Option.some.inj h
        rw [← e]
        exact ih1 y hb
      | none =>
        rw [hb] at h
        exact ih2 x h
  | case2 d h =>
    intro x hx
    have e : wordD n d = partErr n d := by
      rw [wordD]
      intro w a b e
      exact h w a b e
    rw [e] at hx
    by_cases hw : isW d = true
    · cases d <;> try (cases hw)
      rename_i i
      rw [partErr] at hx
      by_cases z : 0 ≤ i ∧ i < n
      · rw [if_pos z] at hx
        cases hx
      · rw [if_neg z] at hx
        exact .inr (.inl (Option.some.inj hx).symm)
    · have h3 : ¬ isTn 3 d = true := fun z => by
        obtain ⟨a, b, c, e⟩ := isTn3 z
        exact h a b c e
      rw [not3 h3 hw] at hx
      exact .inr (.inr (Option.some.inj hx).symm)
theorem fit_err (n : Int) (d : PyData) : Fit0 0 102 (optD (errD n d)) := by
  have s : ∀ x : Str, lowS x = true → x.length ≤ 10 → Fit0 0 102 (optD (some x)) := fun x h1 h2 => fit0_str h1 h2
  cases hw : wordD n d with
  | some x =>
    rw [err_some hw]
    rcases word_low d x hw with rfl | rfl | rfl
    · exact s _ (by decide +kernel) (by decide +kernel)
    · exact s _ (by decide +kernel) (by decide +kernel)
    · exact s _ (by decide +kernel) (by decide +kernel)
  | none =>
    by_cases c : (15 : Int) < ((partsD d).length : Nat)
    · rw [err_size hw c]
      exact s _ (by decide +kernel) (by decide +kernel)
    · rw [err_none hw c]
      exact (fit_of (h := 0) (L := 4) (by decide +kernel)).to0.mono (Nat.le_refl _) (by decide)
theorem line_le {n : Nat} (h : n ≤ 1000000) : n ≤ sizeLine := Nat.le_trans h (by decide)
theorem nat_show {n : Nat} (h : n < 2 ^ 100) : (PyData.int (n : Int)).showable = true ∧ (PyData.int (n : Int)).shown.length ≤ sizeLine := by
  have hl : (n : Int).natAbs.log2 < 1920 := by
    rw [Int.natAbs_natCast]
    by_cases z : n = 0
    · rw [z]
      decide
    · exact Nat.lt_trans ((Nat.log2_lt z).mpr h) (by decide)
  refine ⟨by simp only [PyData.showable]; exact decide_eq_true hl, ?_⟩
  simp only [PyData.shown]
  exact int_text_fits hl
section
variable {P : Program} {w : World} {K : PySem.W.Frag} {mg : Str → Option Value} {base : Heap}
set_option maxHeartbeats 4000000 in
theorem ok_law {f : Addr} {fd : FuncData} (F : Fun K "law" "law" slaw f fd) (hsys : ∃ o, base.get? sysModules = some o) (c__law_bag : CalG P w K mg base 1 "_law_bag" (spBag K)) (c__law_draw : CalG P w K mg base 1 "_law_draw" spDraw)
    (c__law_formula : CalG P w K mg base 6 "_law_formula" (spFormula 4)) (c_size : CalG P w K mg base 3 "size" spSize) (c__law_count : CalG P w K mg base 20 "_law_count" (spCount 20)) (c__law_great : CalG P w K mg base 3 "_law_great" spGreat)
    (c__law_bent : CalG P w K mg base 24 "_law_bent" (spBent 20)) (c__law_odd : CalG P w K mg base 3 "_law_odd" spOdd) (c__law_formula_word : CalG P w K mg base 21 "_law_formula_word" (spFW 20)) (c_formula_error : CalG P w K mg base 3 "formula_error" spErr)
    (b_range : mg "range" = none) (b_repr : mg "repr" = none) (b_list : mg "list" = none) : FnG P w K mg base CX0 25 f fd ["_law_script"] (spLaw K) := by
  have sc := scLaw
  refine okG F sc (fun vs H Q E h => ?_) fun cdv A outer s H vs Q E gA hr h => ?_
  · obtain ⟨a, ns, rfl, _⟩ := h
    rfl
  obtain ⟨a, ns, rfl, hS, h63, q⟩ := h
  have hu : (A.deeper (PyProof.Rows.envOfC "law" (defScope slaw) s.heap.objs.size f cdv)).units + 150 < cLine := by
    have := hr.un
    omega
  refine ⟨_, (pss_cons (ps_set (i := 1) sc.nd rfl (.inr rfl) (pe_cg c__law_bag gA hr (by omega) (by rfl) (pa_cons (pv 0) pa_nil)))
    (pss_cons (ps_for PassesOwn.never rfl (pi_range1 rfl b_range (pa_cons pe_int pa_nil)) (pg_name (i := 2) sc.nd rfl (.inl rfl)) (pss_cons (ps_set (i := 3) sc.nd rfl (.inr rfl) (pe_op op_add pe_int (pe_cg c__law_draw gA hr (by omega) (by rfl) (pa_cons (pv 1) (pa_cons pe_int pa_nil)))))
    (pss_cons (ps_set (i := 4) sc.nd rfl (.inr rfl) (pe_cg c__law_formula gA hr (by omega) (by rfl) (pa_cons (pv 1) (pa_cons (pv 3) (pa_cons (pe_cg c__law_draw gA hr (by omega) (by rfl) (pa_cons (pv 1) (pa_cons pe_int pa_nil))) pa_nil)))))
    (pss_cons (ps_if (pt_cmpR op_ne (pe_callB (call_repr gA hu hsys) (by rfl) b_repr (by decide +kernel) (pa_cons (pe_cg c_size gA hr (by omega) (by rfl) (pa_cons (pv 4) pa_nil)) pa_nil)) (pe_callB (call_repr gA hu hsys) (by rfl) b_repr (by decide +kernel) (pa_cons (pe_cg c__law_count gA hr (by omega) (by rfl) (pa_cons (pv 4) pa_nil)) pa_nil)) (nomark _)) (pss_one (ps_ret pe_bl)) pss_nil)
    (pss_cons (ps_set (i := 5) sc.nd rfl (.inl rfl) (pe_lst (pa_cons (pv 4) (pa_cons (pe_cg c__law_great gA hr (by omega) (by rfl) (pa_cons (pv 1) (pa_cons (pv 3) (pa_cons pe_int pa_nil)))) (pa_cons (pe_cg c__law_great gA hr (by omega) (by rfl) (pa_cons (pv 1) (pa_cons (pv 3) (pa_cons pe_int pa_nil)))) (pa_cons (pe_cg c__law_great gA hr (by omega) (by rfl) (pa_cons (pv 1) (pa_cons (pe_op op_add (pv 3) pe_int) (pa_cons pe_int pa_nil)))) (pa_cons (pe_tup (pa_cons (pv 4) pa_nil)) pa_nil)))))))
    (pss_cons (ps_set (i := 5) sc.nd rfl (.inl rfl) (pe_op op_cat (pv 5) (pe_lst (pa_cons (pe_tup (pa_cons pe_str (pa_cons (pv 4) (pa_cons (pv 4) pa_nil)))) (pa_cons (pe_tup (pa_cons pe_str (pa_cons (pe_tup (pa_cons pe_str (pa_cons (pv 4) (pa_cons (pv 4) pa_nil)))) (pa_cons (pv 4) pa_nil)))) (pa_cons (pe_callTy call_list_of (by rfl) b_list (by decide +kernel) (pa_cons (pe_tup (pa_cons (pv 4) (pa_cons (pv 4) pa_nil))) pa_nil)) pa_nil))))))
    (pss_cons (ps_set (i := 5) sc.nd rfl (.inl rfl) (pe_op op_cat (pv 5) (pe_lc (own := [("_law_again", 9)]) (g := gName 9) (tt := tYes) rfl sc.nd (pi_range1 rfl b_range (pa_cons pe_int pa_nil)) (blkOk_by (N := lawN) (sc := defScope slaw) (by decide +kernel)) (fun _ _ _ _ _ => pg_name (i := 9) sc.nd rfl (Or.inl rfl)) (fun _ _ _ _ _ => pts_nil) (fun _ _ _ _ _ => pe_cgF c__law_bent gA hr (by omega) (by rfl) (pa_cons (pv 1) (pa_cons (pv 3) (pa_cons (pv 4) pa_nil)))))))
    (pss_one (ps_for PassesOwn.never rfl (pi_list (pe_op op_cat (pv 5) (pe_lst (pa_cons (pe_cg c__law_bent gA hr (by omega) (by rfl) (pa_cons (pv 1) (pa_cons (pv 3) (pa_cons (pe_cg c__law_great gA hr (by omega) (by rfl) (pa_cons (pv 1) (pa_cons (pv 3) (pa_cons pe_int pa_nil)))) pa_nil)))) (pa_cons pe_non (pa_cons (pe_cg c__law_odd gA hr (by omega) (by rfl) (pa_cons (pv 1) pa_nil)) pa_nil)))))) (pg_name (i := 6) sc.nd rfl (.inl rfl)) (pss_cons (ps_par (i := 7) (j := 8) rfl sc.nd rfl rfl (by decide) rfl rfl (pa_cons (pe_callB (call_repr gA hu hsys) (by rfl) b_repr (by decide +kernel) (pa_cons (pv 6) pa_nil)) (pa_cons (pe_cg c__law_formula_word gA hr (by omega) (by rfl) (pa_cons (pv 3) (pa_cons (pv 6) pa_nil))) pa_nil)) (by rfl))
    (pss_one (ps_if (pt_cmpR op_ne (pe_callB (call_repr gA hu hsys) (by rfl) b_repr (by decide +kernel) (pa_cons (pe_lst (pa_cons (pe_cg c_formula_error gA hr (by omega) (by rfl) (pa_cons (pv 3) (pa_cons (pv 6) pa_nil))) (pa_cons (pe_cg c_formula_error gA hr (by omega) (by rfl) (pa_cons (pv 3) (pa_cons (pv 6) pa_nil))) (pa_cons (pe_callB (call_repr gA hu hsys) (by rfl) b_repr (by decide +kernel) (pa_cons (pv 6) pa_nil)) pa_nil)))) pa_nil)) (pe_callB (call_repr gA hu hsys) (by rfl) b_repr (by decide +kernel) (pa_cons (pe_lst (pa_cons (pv 8) (pa_cons (pv 8) (pa_cons (pv 7) pa_nil)))) pa_nil)) (nomark _)) (pss_one (ps_ret pe_bl)) pss_nil))))))))))))
    (pss_one (ps_ret pe_bl)))), ?_⟩
  refine ⟨_, rfl, a, ns, rfl, hS, h63, fun b H1 s1 b1 => ?_⟩
  refine ⟨8, rfl, by decide, by decide, for_range (n := 8) (fun i σ Hc => BagAt b Hc ∧ ∃ y2 y3 y4 y5 y6 y7 y8 y9, σ = [some (.ref a), some (.ref b), y2, y3, y4, y5, y6, y7, y8, y9]) ⟨b1, none, none, none, none, none, none, none, none, rfl⟩ (fun i0 σ Hc hi hp => ?_) (fun σ Hc hp => ?_)⟩
  · obtain ⟨bc, y2, y3, y4, y5, y6, y7, y8, y9, rfl⟩ := hp
    -- names, formula
    refine ⟨_, rfl, b, 8, rfl, bc, by decide, by decide, fun d1 Ha ka ba d10 d11 => ⟨_, _, rfl, rfl, ?_⟩⟩
    dsimp only
    generalize hn : (1 : Int) + d1 = n
    have hn1 : 1 ≤ n := by omega
    have hn8 : n ≤ 8 := by omega
    refine ⟨_, rfl, _, rfl, _, rfl, b, 4, rfl, ba, by decide, by decide, fun d2 Hb kb bb d20 d21 => ?_⟩
    obtain ⟨j, rfl⟩ : ∃ j : Nat, d2 = (j : Int) := ⟨d2.toNat, by omega⟩
    refine ⟨b, n, j, rfl, bb, hn1, by omega, by omega, fun fv fd Hf kf bf xf wf ff => ?_⟩
    have ff3 : Fit 3 300 fd := by
      have hj : j ≤ 3 := by omega
      have p2 : 2 ^ j ≤ 2 ^ 3 := Nat.pow_le_pow_right (by decide) hj
      exact ff.mono hj (by omega)
    have hpl : (partsD fd).length ≤ 301 := Nat.le_trans (parts_le fd) (Nat.succ_le_succ ff3.ln)
    have hht : htD fd ≤ 3 := Nat.le_trans (ht_le fd) ff3.dp
    -- size against count
    have ns := nat_show (n := (partsD fd).length) (Nat.lt_of_le_of_lt hpl (by decide))
    refine ⟨_, rfl, fv, fd, rfl, xf.same off_same, by omega, fun Hs ss => ⟨_, _, rfl, .int _, ns.1, by simp only [PyData.depth]; exact Nat.zero_le _, ns.2, ?_⟩⟩
    have ec := count_parts n fd wf
    refine ⟨_, rfl, fv, fd, n, rfl, (xf.same off_same).same ss, wf, by omega, ?_⟩
    rw [← ec]
    refine ⟨_, _, rfl, .int _, ns.1, by simp only [PyData.depth]; exact Nat.zero_le _, ns.2, rfl, _, rfl, iteNS rfl ?_⟩
    have bs := bf.same ss
    have xs := xf.same (Keep.of ss)
    clear ns
    -- five values
    refine ⟨_, rfl, _, rfl, _, rfl, b, n, 7, rfl, bs, hn1, by omega, by decide, fun g1 e1 H1' k1' b1' x1' w1' f1' => ?_⟩
    refine ⟨_, rfl, _, rfl, b, n, 8, rfl, b1', hn1, by omega, by decide, fun g2 e2 H2' k2' b2' x2' w2' f2' => ?_⟩
    refine ⟨_, rfl, _, rfl, _, _, rfl, rfl, b, n + 1, 8, rfl, b2', by omega, by omega, by decide, fun g3 e3 H3' k3' b3' x3' w3' f3' => ?_⟩
    refine ⟨_, rfl, (by show 1 ≤ sizeLine; decide), fun pt npt => ?_⟩
    refine ⟨(by show 5 ≤ sizeLine; decide), fun p1 np1 => ?_⟩
    have st := Keep.of (b := b) (same_new (o := .tup [fv]) npt)
    have bt := b3'.same (same_new (o := .tup [fv]) npt)
    have ot := off_new (o := .tup [fv]) b3' npt
    generalize upd H3' pt (.tup [fv]) = Ht at np1 st bt ot
    have sp1 := Keep.of (b := b) (same_new (o := .lst [fv, g1, g2, g3, .ref pt]) np1)
    have bp1 := bt.same (same_new (o := .lst [fv, g1, g2, g3, .ref pt]) np1)
    have op1 := off_new (o := .lst [fv, g1, g2, g3, .ref pt]) bt np1
    have kst : Keep b Hs Ht := ((k1'.trans k2').trans k3').trans st
    have da1 : DaAll (off b (upd Ht p1 (.lst [fv, g1, g2, g3, .ref pt]))) [fv, g1, g2, g3, .ref pt] [fd, e1, e2, e3, .tuple [fd]] :=
      .cons ((xs.same kst).same sp1) (.cons ((((x1'.same k2').same k3').same st).same sp1) (.cons (((x2'.same k3').same st).same sp1) (.cons ((x3'.same st).same sp1)
        (.cons (.tup (sp1 _ _ ot) (.cons ((xs.same kst).same sp1) .nil)) .nil))))
    have fts1 : ∀ d ∈ [fd, e1, e2, e3, .tuple [fd]], Fit 16 3000 d := fun d hd => by
      simp only [List.mem_cons, List.not_mem_nil, or_false] at hd
      rcases hd with rfl | rfl | rfl | rfl | rfl
      · exact ff3.mono (by decide) (by decide)
      · exact f1'.mono (by decide) (by decide)
      · exact f2'.mono (by decide) (by decide)
      · exact f3'.mono (by decide) (by decide)
      · exact (Fit.tupAll (ds := [fd]) (fun d hd => by rw [List.mem_singleton] at hd; subst hd; exact ff3)).mono (by decide) (Nat.le_of_ble_eq_true rfl)
    have xf1 := (xs.same kst).same sp1
    have g1p : ∀ z : List V, z = [fv, g1, g2, g3, .ref pt] → (upd Ht p1 (.lst [fv, g1, g2, g3, .ref pt])) p1 = some (.lst z) := fun z e => by rw [e]; exact upd_same
    generalize upd Ht p1 (.lst [fv, g1, g2, g3, .ref pt]) = Hp1 at sp1 bp1 op1 da1 xf1 g1p
    -- three more
    refine ⟨_, rfl, _, rfl, _, rfl, (by show 3 ≤ sizeLine; decide), fun q1 nq1 => ?_⟩
    have t1 := Keep.of (b := b) (same_new (o := .tup [.str "with", fv, fv]) nq1)
    have c1 := bp1.same (same_new (o := .tup [.str "with", fv, fv]) nq1)
    have u1 := off_new (o := .tup [.str "with", fv, fv]) bp1 nq1
    generalize upd Hp1 q1 (.tup [.str "with", fv, fv]) = Hq1 at t1 c1 u1
    refine ⟨_, rfl, _, rfl, (by show 3 ≤ sizeLine; decide), fun q2 nq2 => ?_⟩
    have t2 := Keep.of (b := b) (same_new (o := .tup [.str "with", fv, fv]) nq2)
    have c2 := c1.same (same_new (o := .tup [.str "with", fv, fv]) nq2)
    have u2 := off_new (o := .tup [.str "with", fv, fv]) c1 nq2
    generalize upd Hq1 q2 (.tup [.str "with", fv, fv]) = Hq2 at t2 c2 u2
    refine ⟨_, rfl, (by show 3 ≤ sizeLine; decide), fun q3 nq3 => ?_⟩
    have t3 := Keep.of (b := b) (same_new (o := .tup [.str "ahead", .ref q2, fv]) nq3)
    have c3 := c2.same (same_new (o := .tup [.str "ahead", .ref q2, fv]) nq3)
    have u3 := off_new (o := .tup [.str "ahead", .ref q2, fv]) c2 nq3
    generalize upd Hq2 q3 (.tup [.str "ahead", .ref q2, fv]) = Hq3 at t3 c3 u3
    refine ⟨_, rfl, _, rfl, (by show 2 ≤ sizeLine; decide), fun q4 nq4 => ?_⟩
    have t4 := Keep.of (b := b) (same_new (o := .tup [fv, fv]) nq4)
    have c4 := c3.same (same_new (o := .tup [fv, fv]) nq4)
    have u4 := off_new (o := .tup [fv, fv]) c3 nq4
    generalize upd Hq3 q4 (.tup [fv, fv]) = Hq4 at t4 c4 u4
    refine ⟨q4, _, rfl, .inr (SqT.of (off_same _ _ u4)), fun q5 nq5 => ?_⟩
    have t5 := Keep.of (b := b) (same_new (o := .lst [fv, fv]) nq5)
    have c5 := c4.same (same_new (o := .lst [fv, fv]) nq5)
    have u5 := off_new (o := .lst [fv, fv]) c4 nq5
    generalize upd Hq4 q5 (.lst [fv, fv]) = Hq5 at t5 c5 u5
    refine ⟨(by show 3 ≤ sizeLine; decide), fun p2 np2 => ?_⟩
    have t6 := Keep.of (b := b) (same_new (o := .lst [.ref q1, .ref q3, .ref q5]) np2)
    have c6 := c5.same (same_new (o := .lst [.ref q1, .ref q3, .ref q5]) np2)
    have k1e : Keep b Hp1 Hq5 := (((t1.trans t2).trans t3).trans t4).trans t5
    refine ⟨p1, p2, _, _, rfl, rfl, off_same _ _ (t6 _ _ (k1e _ _ op1)), upd_same, (by show 8 ≤ sizeLine; decide), fun p3 np3 => ?_⟩
    have xq1 := xf1.same t1
    have xq2 := xq1.same t2
    have xq3 := xq2.same t3
    have xq4 := xq3.same t4
    have xq5 := xq4.same t5
    have k56 := t6
    have da2 : DaAll (off b Hq5) [.ref q1, .ref q3, .ref q5] [.tuple [.str "with", fd, fd], .tuple [.str "ahead", .tuple [.str "with", fd, fd], fd], .list [fd, fd]] := by
      refine .cons ?_ (.cons ?_ (.cons ?_ .nil))
      · exact .tup (t5 _ _ (t4 _ _ (t3 _ _ (t2 _ _ u1)))) (.cons (.str _) (.cons xq5 (.cons xq5 .nil)))
      · exact .tup (t5 _ _ (t4 _ _ u3)) (.cons (.str _) (.cons (.tup (t5 _ _ (t4 _ _ (t3 _ _ u2))) (.cons (.str _) (.cons xq5 (.cons xq5 .nil)))) (.cons xq5 .nil)))
      · exact .lst u5 (.cons xq5 (.cons xq5 .nil))
    have fw : ∀ x ∈ [PyData.str "with", .str "behind", .str "ahead"], Fit 3 8 x := fun x hx => by
      obtain ⟨_, _, _, z⟩ := word_mem hx
      exact z.mono (by decide) (by decide)
    have f2a : Fit 4 614 (.tuple [.str "with", fd, fd]) := Fit.tup3 (fw _ (by simp)) ff3 ff3
    have fts2 : ∀ d ∈ [.tuple [.str "with", fd, fd], .tuple [.str "ahead", .tuple [.str "with", fd, fd], fd], .list [fd, fd]], Fit 16 3000 d := fun d hd => by
      simp only [List.mem_cons, List.not_mem_nil, or_false] at hd
      rcases hd with rfl | rfl | rfl
      · exact f2a.mono (by decide) (by decide)
      · exact (Fit.tup3 ((fw _ (by simp)).mono (by decide) (Nat.le_refl 8)) f2a (ff3.mono (by decide) (Nat.le_refl 300))).mono (by decide) (by decide)
      · exact (Fit.lstAll (ds := [fd, fd]) (fun d hd => by simp only [List.mem_cons, List.not_mem_nil, or_false, or_self] at hd; subst hd; exact ff3)).mono (by decide) (Nat.le_of_ble_eq_true rfl)
    have t7 := Keep.of (b := b) (same_new (o := .lst ([fv, g1, g2, g3, .ref pt] ++ [.ref q1, .ref q3, .ref q5])) np3)
    have c7 := c6.same (same_new (o := .lst ([fv, g1, g2, g3, .ref pt] ++ [.ref q1, .ref q3, .ref q5])) np3)
    have u7 := off_new (o := .lst ([fv, g1, g2, g3, .ref pt] ++ [.ref q1, .ref q3, .ref q5])) c6 np3
    have da3' := (((da1.same k1e).append da2).same t6).same t7
    have fts3 : ∀ d ∈ [fd, e1, e2, e3, .tuple [fd]] ++ [.tuple [.str "with", fd, fd], .tuple [.str "ahead", .tuple [.str "with", fd, fd], fd], .list [fd, fd]], Fit 16 3000 d := fun d hd => (List.mem_append.mp hd).elim (fts1 d) (fts2 d)
    have xf7 := (xq5.same t6).same t7
    generalize upd (upd Hq5 p2 (.lst [.ref q1, .ref q3, .ref q5])) p3 (.lst ([fv, g1, g2, g3, .ref pt] ++ [.ref q1, .ref q3, .ref q5])) = H7 at t7 c7 u7 da3' xf7
    have nDb : ∀ {D : Addr} {Hz : Hp}, BagAt b Hz → Hz D = none → D ≠ b := fun bz nz e => by
      obtain ⟨g, x, n, eb, _⟩ := bz
      rw [e, eb] at nz
      cases nz
    -- six bent ones
    refine ⟨_, rfl, 6, rfl, by decide, by decide, fun D nD => lc_range (lo := 0) (n := 6) (g := gName 9) (tt := tYes) (vs := [9]) (H1 := H7) (D := D) (fun i Hc => BagAt b Hc ∧ Keep b H7 Hc ∧ ∃ acc ds, Hc D = some (.lst acc) ∧ DaAll (off D (off b Hc)) acc ds ∧ ds.length = i ∧ ∀ d ∈ ds, Fit 16 3000 d) ?_ (fun i Hc hi hp => ?_) (fun Hc hp => ?_)⟩
    · exact ⟨c7.same (same_new nD), Keep.of (same_new nD), [], [], upd_same, .nil, rfl, fun d hd => nomatch hd⟩
    · obtain ⟨bcc, kcc, acc, ds, eD, xa, ld, fds⟩ := hp
      have hDb := nDb c7 nD
      have bd : BagAt b (off D Hc) := by
        obtain ⟨g, x, n, eb, r⟩ := bcc
        exact ⟨g, x, n, off_put (fun e => hDb e.symm) eb, r⟩
      have kd : Same (off b H7) (off b (off D Hc)) := fun z o e => by
        have e1 := kcc _ _ e
        have zD : z ≠ D := fun w => by
          have e2 := (off_get e).2
          rw [w, nD] at e2
          cases e2
        exact off_put (off_get e).1 (off_put zD (off_get e1).2)
      refine ⟨rfl, ?_⟩
      refine ⟨_, rfl, _, rfl, _, rfl, D, acc, eD, b, n, fv, fd, 3, 300, rfl, bd, hn1, by omega, xf7.same kd, ⟨n, wf⟩, by omega, ff3.dp, ff3.ln, ff3, fun r d' H' k' b' x' f' hn' => ?_⟩
      refine ⟨acc, upd_same, ?_, ?_⟩
      · rw [xa.length, ld]
        exact small1000 (by omega)
      have sA : ∀ z o, z ≠ D → H' z = some o → (upd (upd H' D (.lst acc)) D (.lst (acc ++ [r]))) z = some o := fun z o zD e => by
        rw [upd_ne zD, upd_ne zD]
        exact e
      refine ⟨?_, fun z o e => ?_, acc ++ [r], ds ++ [d'], upd_same, ?_, by rw [List.length_append, ld]; rfl, fun d hd => ?_⟩
      · obtain ⟨g, x, n, eb, rr⟩ := b'
        exact ⟨g, x, n, sA _ _ (fun e => hDb e.symm) eb, rr⟩
      · have e1 := k' _ _ (kd _ _ e)
        have zD : z ≠ D := fun w => by
          have e2 := (off_get e).2
          rw [w, nD] at e2
          cases e2
        exact off_put (off_get e).1 (sA _ _ zD (off_get e1).2)
      · have so : Same (off D (off b Hc)) (off D (off b (upd (upd H' D (.lst acc)) D (.lst (acc ++ [r]))))) := fun z o e => by
          obtain ⟨zD, e⟩ := off_get e
          obtain ⟨zb, e⟩ := off_get e
          have e1 := k' z o (off_put zb (off_put zD e))
          exact off_put zD (off_put zb (sA _ _ zD (off_get e1).2))
        have sn : Same (off b H') (off D (off b (upd (upd H' D (.lst acc)) D (.lst (acc ++ [r]))))) := fun z o e => by
          obtain ⟨zb, e⟩ := off_get e
          have zD : z ≠ D := ne_of_none e hn'
          exact off_put zD (off_put zb (sA _ _ zD e))
        exact (xa.same so).append (.cons (x'.same sn) .nil)
      · rcases List.mem_append.mp hd with z | z
        · exact fds d z
        · rw [List.mem_singleton] at z
          subst z
          have z1 := ff3.dp
          have z2 := ff3.ln
          exact f'.mono (by omega) (by omega)
    obtain ⟨bcc, kcc, acc, ds, eD, xa, ld, fds⟩ := hp
    have xa' : DaAll (off b Hc) acc ds := xa.same off_same
    refine ⟨p3, D, _, acc, rfl, rfl, off_same _ _ (kcc _ _ u7), eD, ?_, fun p4 np4 => ?_⟩
    · rw [da3'.length, xa'.length, ld]
      exact Nat.le_of_lt (small1000 (Nat.le_of_ble_eq_true rfl))
    have da4 := (da3'.same kcc).append xa'
    have fts4 : ∀ d ∈ ([fd, e1, e2, e3, PyData.tuple [fd]] ++ [PyData.tuple [PyData.str "with", fd, fd], PyData.tuple [PyData.str "ahead", PyData.tuple [PyData.str "with", fd, fd], fd], PyData.list [fd, fd]]) ++ ds, Fit 16 3000 d := fun d hd => (List.mem_append.mp hd).elim (fts3 d) (fds d)
    have len4 : (([fd, e1, e2, e3, PyData.tuple [fd]] ++ [PyData.tuple [PyData.str "with", fd, fd], PyData.tuple [PyData.str "ahead", PyData.tuple [PyData.str "with", fd, fd], fd], PyData.list [fd, fd]]) ++ ds).length = 14 := by
      rw [List.length_append, ld]
      rfl
    generalize ([fv, g1, g2, g3, V.ref pt] ++ [V.ref q1, V.ref q3, V.ref q5]) ++ acc = xs4 at da4 ⊢
    generalize ([fd, e1, e2, e3, PyData.tuple [fd]] ++ [PyData.tuple [PyData.str "with", fd, fd], PyData.tuple [PyData.str "ahead", PyData.tuple [PyData.str "with", fd, fd], fd], PyData.list [fd, fd]]) ++ ds = ds4 at da4 fts4 len4
    have t8 := Keep.of (b := b) (same_new (o := .lst xs4) np4)
    have c8 := bcc.same (same_new (o := .lst xs4) np4)
    have u8 := off_new (o := .lst xs4) bcc np4
    have da8 := da4.same t8
    have xf8 := (xf7.same kcc).same t8
    generalize upd Hc p4 (.lst xs4) = H8 at t8 c8 u8 da8 xf8
    -- the last three, and the loop
    refine ⟨_, rfl, _, rfl, _, rfl, _, rfl, _, rfl, b, n, 9, rfl, c8, hn1, by omega, by decide, fun gv gd H9 k9 b9 x9 w9 f9 => ?_⟩
    have hg9 : htD gd ≤ 9 := Nat.le_trans (ht_le gd) f9.dp
    refine ⟨b, n, gv, gd, 9, 280, rfl, b9, hn1, by omega, x9, ⟨n, w9⟩, by omega, f9.dp, f9.ln, f9, fun r d' H10 k10 b10 x10 f10 => ?_⟩
    refine ⟨_, rfl, b, rfl, b10, fun o od H11 k11 b11 xo fo => ?_⟩
    refine ⟨(by show 3 ≤ sizeLine; decide), fun p5 np5 => ?_⟩
    have t12 := Keep.of (b := b) (same_new (o := .lst [r, .non, o]) np5)
    have c12 := b11.same (same_new (o := .lst [r, .non, o]) np5)
    have u12 := off_new (o := .lst [r, .non, o]) b11 np5
    have k8b := ((k9.trans k10).trans k11).trans t12
    have da12 : DaAll (off b (upd H11 p5 (.lst [r, .non, o]))) [r, .non, o] [d', .none, od] := .cons ((x10.same k11).same t12) (.cons .non (.cons (xo.same t12) .nil))
    have da8b := da8.same k8b
    have e8b := k8b _ _ u8
    generalize upd H11 p5 (.lst [r, .non, o]) = H12 at t12 c12 u12 da12 k8b da8b e8b
    refine ⟨p4, p5, xs4, _, rfl, rfl, off_same _ _ e8b, off_same _ _ u12, ?_, fun p6 np6 => ?_⟩
    · rw [da8b.length, len4]
      exact Nat.le_of_lt (small1000 (Nat.le_of_ble_eq_true rfl))
    have da13 := (da8b.append da12).same (Keep.of (b := b) (same_new (o := .lst (xs4 ++ [r, .non, o])) np6))
    have c13 := c12.same (same_new (o := .lst (xs4 ++ [r, .non, o])) np6)
    have u13 := off_new (o := .lst (xs4 ++ [r, .non, o])) c12 np6
    have fts13 : ∀ d ∈ ds4 ++ [d', .none, od], Fit 16 3000 d := fun d hd => by
      rcases List.mem_append.mp hd with z | z
      · exact fts4 d z
      · simp only [List.mem_cons, List.not_mem_nil, or_false] at z
        have z1 := f9.dp
        have z2 := f9.ln
        rcases z with rfl | rfl | rfl
        · exact f10.mono (by omega) (by omega)
        · exact fit_of (by decide +kernel)
        · exact fo.mono (by decide) (by decide)
    generalize xs4 ++ [r, V.non, o] = xs at da13 c13 u13 ⊢
    generalize ds4 ++ [d', PyData.none, od] = dsz at da13 fts13
    generalize upd H12 p6 (.lst xs) = H13 at da13 c13 u13
    refine ⟨p6, rfl, ⟨xs, SqL.of (off_same _ _ u13)⟩, for_list (xs := xs) (fun i σ Hc => Same H13 Hc ∧ ∃ y6 y7 y8, σ = [some (.ref a), some (.ref b), some (.int (0 + (i0 : Int))), some (.int n), some fv, some (.ref p4), y6, y7, y8, y9]) ⟨Same.refl _, _, _, _, rfl⟩ (fun i σ Hc _ hp => ?_) (fun i v σ Hc hi hp => ?_) (fun σ Hc hp => ?_)⟩
    · exact SqL.of (hp.1 _ _ (off_same _ _ u13))
    · obtain ⟨sm, y6, y7, y8, rfl⟩ := hp
      obtain ⟨d, hd, xd⟩ := da13.getv hi
      have fd_ := fts13 d (List.mem_of_getElem? hd)
      have xd0 : Da Hc v d := (xd.same off_same).same sm
      have hp1 : (partsD d).length ≤ 10000 := by
        have := parts_le d
        have := fd_.ln
        omega
      have hh1 : htD d < 20 := by
        have := ht_le d
        have := fd_.dp
        omega
      have shl : d.shown.length ≤ sizeLine := line_le (by have := fd_.ln; omega)
      have dp1 : d.depth ≤ 100 := by have := fd_.dp; omega
      refine ⟨_, rfl, v, d, rfl, xd0, fd_.sh, dp1, shl, _, rfl, _, rfl, v, d, n, rfl, xd0, hh1, fun Ha sa => ⟨_, _, rfl, ?_⟩⟩
      refine ⟨_, rfl, _, rfl, v, d, n, rfl, xd0.same sa, hp1, fun Hb sb => ?_⟩
      refine ⟨_, rfl, _, rfl, v, d, n, rfl, (xd0.same sa).same sb, hp1, fun He se => ?_⟩
      refine ⟨_, rfl, v, d, rfl, ((xd0.same sa).same sb).same se, fd_.sh, dp1, shl, (by show 3 ≤ sizeLine; decide), fun r1 nr1 => ?_⟩
      have f3 : Fit0 1 100000 (.list [optD (errD n d), optD (errD n d), .str d.shown]) := by
        refine (Fit0.lstAll (h := 0) (L := 30002) (fun z hz => ?_)).mono (Nat.le_refl _) (Nat.le_of_ble_eq_true rfl)
        simp only [List.mem_cons, List.not_mem_nil, or_false] at hz
        rcases hz with rfl | rfl | rfl
        · exact (fit_err n d).mono (Nat.le_refl _) (by decide)
        · exact (fit_err n d).mono (Nat.le_refl _) (by decide)
        · exact (fit0_str fd_.lo fd_.ln).mono (Nat.le_refl _) (by decide)
      refine ⟨_, _, rfl, .lst upd_same (.cons (da_opt _) (.cons (da_opt _) (.cons (.str _) .nil))), f3.sh, Nat.le_trans f3.dp (by decide), line_le (Nat.le_trans f3.ln (by decide)), ?_⟩
      refine ⟨_, rfl, _, rfl, _, rfl, (by show 3 ≤ sizeLine; decide), fun r2 nr2 => ?_⟩
      refine ⟨_, _, rfl, .lst upd_same (.cons (da_opt _) (.cons (da_opt _) (.cons (.str _) .nil))), f3.sh, Nat.le_trans f3.dp (by decide), line_le (Nat.le_trans f3.ln (by decide)), rfl, _, rfl, iteNS rfl ?_⟩
      exact ⟨((((sm.trans sa).trans sb).trans se).trans (same_new nr1)).trans (same_new nr2), _, _, _, rfl⟩
    · obtain ⟨sm, y6, y7, y8, rfl⟩ := hp
      exact ⟨c13.same sm, _, _, _, _, _, _, _, _, rfl⟩
  · exact q Hc
end
end K01

namespace K01
open PySem L2 VK
theorem def_mk {K : PySem.W.Frag} {mg : Str → Option Value} {x : Str} {st : Stmt} {ps : List Str} {f : Addr} {oc : Value} {od an : Option Addr} {osl : Array (Option Value)} {kV doc pm cdv ct : Value}
    (m : mg x = some (.ref f)) (l : K.lookup f = some ⟨oc, od, .func (PySem.W.fnOf x x (defArgs st) (defBody st) (defScope st) .none kV doc pm an cdv ct), osl⟩) (c : PySem.W.codeIn K cdv x = true) (k : PySem.W.keepIn K (.ref f) = true)
    (h : ∀ (kV doc pm : Value) (an : Option Addr) (cdv ct : Value) (us : List Value), us.length = ps.length → bindArgs (PySem.W.fnOf x x (defArgs st) (defBody st) (defScope st) .none kV doc pm an cdv ct) ⟨us, []⟩ = pure (ps.zip us)) : DefAt K mg x st ps :=
  ⟨f, _, fun_mk l c k, (fun_mk l c k).binds h, m⟩
theorem all_mk {l : PySem.W.OpenLaw} {w : World} {K : PySem.W.Frag} {h : Heap} {mg : Str → Option Value} {fa f1 f2 f3 f4 f5 f6 f7 f8 f9 f10 f11 f12 f13 f14 f15 f16 f17 aw : Addr} (X : K.In h) (G : h.Ns mainGlobals mg) (hfa : mg "law" = some (.ref fa))
    {od1 an1 od2 an2 od3 an3 od4 an4 od5 an5 od6 an6 od7 an7 od8 an8 od9 an9 od10 an10 od11 an11 od12 an12 od13 an13 od14 an14 od15 an15 od16 an16 od17 an17 odW : Option Addr} {sl1 sl2 sl3 sl4 sl5 sl6 sl7 sl8 sl9 sl10 sl11 sl12 sl13 sl14 sl15 sl16 sl17 slW : Array (Option Value)} {oc1 kV1 dc1 pm1 cd1 ct1 oc2 kV2 dc2 pm2 cd2 ct2 oc3 kV3 dc3 pm3 cd3 ct3 oc4 kV4 dc4 pm4 cd4 ct4 oc5 kV5 dc5 pm5 cd5 ct5 oc6 kV6 dc6 pm6 cd6 ct6 oc7 kV7 dc7 pm7 cd7 ct7 oc8 kV8 dc8 pm8 cd8 ct8 oc9 kV9 dc9 pm9 cd9 ct9 oc10 kV10 dc10 pm10 cd10 ct10 oc11 kV11 dc11 pm11 cd11 ct11 oc12 kV12 dc12 pm12 cd12 ct12 oc13 kV13 dc13 pm13 cd13 ct13 oc14 kV14 dc14 pm14 cd14 ct14 oc15 kV15 dc15 pm15 cd15 ct15 oc16 kV16 dc16 pm16 cd16 ct16 oc17 kV17 dc17 pm17 cd17 ct17 : Value} {tw1 tw2 tw3 t15 : Tok} {nW : Nat}
    (a1 : PySem.W.nsIn K mainGlobals "is_whole" = some (some (.ref f1))) (l1 : K.lookup f1 = some ⟨oc1, od1, .func (PySem.W.fnOf "is_whole" "is_whole" (defArgs s_is_whole) (defBody s_is_whole) (defScope s_is_whole) .none kV1 dc1 pm1 an1 cd1 ct1), sl1⟩) (c1 : PySem.W.codeIn K cd1 "is_whole" = true) (k1 : PySem.W.keepIn K (.ref f1) = true)
    (a2 : PySem.W.nsIn K mainGlobals "is_tuple" = some (some (.ref f2))) (l2 : K.lookup f2 = some ⟨oc2, od2, .func (PySem.W.fnOf "is_tuple" "is_tuple" (defArgs s_is_tuple) (defBody s_is_tuple) (defScope s_is_tuple) .none kV2 dc2 pm2 an2 cd2 ct2), sl2⟩) (c2 : PySem.W.codeIn K cd2 "is_tuple" = true) (k2 : PySem.W.keepIn K (.ref f2) = true)
    (a3 : PySem.W.nsIn K mainGlobals "size" = some (some (.ref f3))) (l3 : K.lookup f3 = some ⟨oc3, od3, .func (PySem.W.fnOf "size" "size" (defArgs s_size) (defBody s_size) (defScope s_size) .none kV3 dc3 pm3 an3 cd3 ct3), sl3⟩) (c3 : PySem.W.codeIn K cd3 "size" = true) (k3 : PySem.W.keepIn K (.ref f3) = true)
    (a4 : PySem.W.nsIn K mainGlobals "formula_error" = some (some (.ref f4))) (l4 : K.lookup f4 = some ⟨oc4, od4, .func (PySem.W.fnOf "formula_error" "formula_error" (defArgs s_formula_error) (defBody s_formula_error) (defScope s_formula_error) .none kV4 dc4 pm4 an4 cd4 ct4), sl4⟩) (c4 : PySem.W.codeIn K cd4 "formula_error" = true) (k4 : PySem.W.keepIn K (.ref f4) = true)
    (a5 : PySem.W.nsIn K mainGlobals "parts" = some (some (.ref f5))) (l5 : K.lookup f5 = some ⟨oc5, od5, .func (PySem.W.fnOf "parts" "parts" (defArgs s_parts) (defBody s_parts) (defScope s_parts) .none kV5 dc5 pm5 an5 cd5 ct5), sl5⟩) (c5 : PySem.W.codeIn K cd5 "parts" = true) (k5 : PySem.W.keepIn K (.ref f5) = true)
    (a6 : PySem.W.nsIn K mainGlobals "part_error" = some (some (.ref f6))) (l6 : K.lookup f6 = some ⟨oc6, od6, .func (PySem.W.fnOf "part_error" "part_error" (defArgs s_part_error) (defBody s_part_error) (defScope s_part_error) .none kV6 dc6 pm6 an6 cd6 ct6), sl6⟩) (c6 : PySem.W.codeIn K cd6 "part_error" = true) (k6 : PySem.W.keepIn K (.ref f6) = true)
    (a7 : PySem.W.nsIn K mainGlobals "_law_bag" = some (some (.ref f7))) (l7 : K.lookup f7 = some ⟨oc7, od7, .func (PySem.W.fnOf "_law_bag" "_law_bag" (defArgs s_law_bag) (defBody s_law_bag) (defScope s_law_bag) .none kV7 dc7 pm7 an7 cd7 ct7), sl7⟩) (c7 : PySem.W.codeIn K cd7 "_law_bag" = true) (k7 : PySem.W.keepIn K (.ref f7) = true)
    (a8 : PySem.W.nsIn K mainGlobals "_law_draw" = some (some (.ref f8))) (l8 : K.lookup f8 = some ⟨oc8, od8, .func (PySem.W.fnOf "_law_draw" "_law_draw" (defArgs s_law_draw) (defBody s_law_draw) (defScope s_law_draw) .none kV8 dc8 pm8 an8 cd8 ct8), sl8⟩) (c8 : PySem.W.codeIn K cd8 "_law_draw" = true) (k8 : PySem.W.keepIn K (.ref f8) = true)
    (a9 : PySem.W.nsIn K mainGlobals "_law_pick" = some (some (.ref f9))) (l9 : K.lookup f9 = some ⟨oc9, od9, .func (PySem.W.fnOf "_law_pick" "_law_pick" (defArgs s_law_pick) (defBody s_law_pick) (defScope s_law_pick) .none kV9 dc9 pm9 an9 cd9 ct9), sl9⟩) (c9 : PySem.W.codeIn K cd9 "_law_pick" = true) (k9 : PySem.W.keepIn K (.ref f9) = true)
    (a10 : PySem.W.nsIn K mainGlobals "_law_odd" = some (some (.ref f10))) (l10 : K.lookup f10 = some ⟨oc10, od10, .func (PySem.W.fnOf "_law_odd" "_law_odd" (defArgs s_law_odd) (defBody s_law_odd) (defScope s_law_odd) .none kV10 dc10 pm10 an10 cd10 ct10), sl10⟩) (c10 : PySem.W.codeIn K cd10 "_law_odd" = true) (k10 : PySem.W.keepIn K (.ref f10) = true)
    (a11 : PySem.W.nsIn K mainGlobals "_law_formula" = some (some (.ref f11))) (l11 : K.lookup f11 = some ⟨oc11, od11, .func (PySem.W.fnOf "_law_formula" "_law_formula" (defArgs s_law_formula) (defBody s_law_formula) (defScope s_law_formula) .none kV11 dc11 pm11 an11 cd11 ct11), sl11⟩) (c11 : PySem.W.codeIn K cd11 "_law_formula" = true) (k11 : PySem.W.keepIn K (.ref f11) = true)
    (a12 : PySem.W.nsIn K mainGlobals "_law_count" = some (some (.ref f12))) (l12 : K.lookup f12 = some ⟨oc12, od12, .func (PySem.W.fnOf "_law_count" "_law_count" (defArgs s_count) (defBody s_count) (defScope s_count) .none kV12 dc12 pm12 an12 cd12 ct12), sl12⟩) (c12 : PySem.W.codeIn K cd12 "_law_count" = true) (k12 : PySem.W.keepIn K (.ref f12) = true)
    (a13 : PySem.W.nsIn K mainGlobals "_law_part_word" = some (some (.ref f13))) (l13 : K.lookup f13 = some ⟨oc13, od13, .func (PySem.W.fnOf "_law_part_word" "_law_part_word" (defArgs s_part_word) (defBody s_part_word) (defScope s_part_word) .none kV13 dc13 pm13 an13 cd13 ct13), sl13⟩) (c13 : PySem.W.codeIn K cd13 "_law_part_word" = true) (k13 : PySem.W.keepIn K (.ref f13) = true)
    (a14 : PySem.W.nsIn K mainGlobals "_law_formula_word" = some (some (.ref f14))) (l14 : K.lookup f14 = some ⟨oc14, od14, .func (PySem.W.fnOf "_law_formula_word" "_law_formula_word" (defArgs s_law_formula_word) (defBody s_law_formula_word) (defScope s_law_formula_word) .none kV14 dc14 pm14 an14 cd14 ct14), sl14⟩) (c14 : PySem.W.codeIn K cd14 "_law_formula_word" = true) (k14 : PySem.W.keepIn K (.ref f14) = true)
    (a15 : PySem.W.nsIn K mainGlobals "_law_bent" = some (some (.ref f15))) (l15 : K.lookup f15 = some ⟨oc15, od15, .func (PySem.W.fnOf "_law_bent" "_law_bent" (defArgs s_law_bent) (defBody s_law_bent) (defScope s_law_bent) .none kV15 dc15 pm15 an15 cd15 ct15), sl15⟩) (c15 : PySem.W.codeIn K cd15 "_law_bent" = true) (k15 : PySem.W.keepIn K (.ref f15) = true)
    (a16 : PySem.W.nsIn K mainGlobals "_law_great" = some (some (.ref f16))) (l16 : K.lookup f16 = some ⟨oc16, od16, .func (PySem.W.fnOf "_law_great" "_law_great" (defArgs s_law_great) (defBody s_law_great) (defScope s_law_great) .none kV16 dc16 pm16 an16 cd16 ct16), sl16⟩) (c16 : PySem.W.codeIn K cd16 "_law_great" = true) (k16 : PySem.W.keepIn K (.ref f16) = true)
    (a17 : PySem.W.nsIn K mainGlobals "law" = some (some (.ref f17))) (l17 : K.lookup f17 = some ⟨oc17, od17, .func (PySem.W.fnOf "law" "law" (defArgs slaw) (defBody slaw) (defScope slaw) .none kV17 dc17 pm17 an17 cd17 ct17), sl17⟩) (c17 : PySem.W.codeIn K cd17 "law" = true) (k17 : PySem.W.keepIn K (.ref f17) = true)
    (z0 : PySem.W.nsIn K mainGlobals "isinstance" = some none)
    (z1 : PySem.W.nsIn K mainGlobals "int" = some none)
    (z2 : PySem.W.nsIn K mainGlobals "bool" = some none)
    (z3 : PySem.W.nsIn K mainGlobals "tuple" = some none)
    (z4 : PySem.W.nsIn K mainGlobals "str" = some none)
    (z5 : PySem.W.nsIn K mainGlobals "len" = some none)
    (z6 : PySem.W.nsIn K mainGlobals "abs" = some none)
    (z7 : PySem.W.nsIn K mainGlobals "range" = some none)
    (z8 : PySem.W.nsIn K mainGlobals "repr" = some none)
    (z9 : PySem.W.nsIn K mainGlobals "list" = some none)
    (wW : PySem.W.nsIn K mainGlobals "WORDS" = some (some (.ref aw))) (lW : K.lookup aw = some ⟨.type "tuple", odW, .seq #[.str "with" tw1, .str "behind" tw2, .str "ahead" tw3] nW, slW⟩)
    (wM : PySem.W.nsIn K mainGlobals "MAX_SIZE" = some (some (.int 15 t15)))
    : ∃ fd : FuncData, (∀ (s : Shared) (v : Value), BindsTo s fd ⟨[v], []⟩ [("_law_script", v)]) ∧ ∀ base : Heap, K.In base → base.Ns mainGlobals mg → (∃ o, base.get? sysModules = some o) → FnG l.prog w K mg base CX0 25 fa fd ["_law_script"] (spLaw K) := by
  have e := hfa.symm.trans (PySem.W.mg_of X G a17)
  cases e
  have D1 : DefAt K mg "is_whole" s_is_whole ["value"] := def_mk (PySem.W.mg_of X G a1) l1 c1 k1 fun _ _ _ _ _ _ us hl => match us, hl with | [_], _ => rfl
  have D2 : DefAt K mg "is_tuple" s_is_tuple ["value", "many"] := def_mk (PySem.W.mg_of X G a2) l2 c2 k2 fun _ _ _ _ _ _ us hl => match us, hl with | [_, _], _ => rfl
  have D3 : DefAt K mg "size" s_size ["formula"] := def_mk (PySem.W.mg_of X G a3) l3 c3 k3 fun _ _ _ _ _ _ us hl => match us, hl with | [_], _ => rfl
  have D4 : DefAt K mg "formula_error" s_formula_error ["names", "value"] := def_mk (PySem.W.mg_of X G a4) l4 c4 k4 fun _ _ _ _ _ _ us hl => match us, hl with | [_, _], _ => rfl
  have D5 : DefAt K mg "parts" s_parts ["value"] := def_mk (PySem.W.mg_of X G a5) l5 c5 k5 fun _ _ _ _ _ _ us hl => match us, hl with | [_], _ => rfl
  have D6 : DefAt K mg "part_error" s_part_error ["names", "part"] := def_mk (PySem.W.mg_of X G a6) l6 c6 k6 fun _ _ _ _ _ _ us hl => match us, hl with | [_, _], _ => rfl
  have D7 : DefAt K mg "_law_bag" s_law_bag ["_law_script"] := def_mk (PySem.W.mg_of X G a7) l7 c7 k7 fun _ _ _ _ _ _ us hl => match us, hl with | [_], _ => rfl
  have D8 : DefAt K mg "_law_draw" s_law_draw ["_law_bag_here", "_law_limit"] := def_mk (PySem.W.mg_of X G a8) l8 c8 k8 fun _ _ _ _ _ _ us hl => match us, hl with | [_, _], _ => rfl
  have D9 : DefAt K mg "_law_pick" s_law_pick ["_law_bag_here", "_law_items"] := def_mk (PySem.W.mg_of X G a9) l9 c9 k9 fun _ _ _ _ _ _ us hl => match us, hl with | [_, _], _ => rfl
  have D10 : DefAt K mg "_law_odd" s_law_odd ["_law_bag_here"] := def_mk (PySem.W.mg_of X G a10) l10 c10 k10 fun _ _ _ _ _ _ us hl => match us, hl with | [_], _ => rfl
  have D11 : DefAt K mg "_law_formula" s_law_formula ["_law_bag_here", "_law_names", "_law_deep"] := def_mk (PySem.W.mg_of X G a11) l11 c11 k11 fun _ _ _ _ _ _ us hl => match us, hl with | [_, _, _], _ => rfl
  have D12 : DefAt K mg "_law_count" s_count ["_law_value"] := def_mk (PySem.W.mg_of X G a12) l12 c12 k12 fun _ _ _ _ _ _ us hl => match us, hl with | [_], _ => rfl
  have D13 : DefAt K mg "_law_part_word" s_part_word ["_law_names", "_law_value"] := def_mk (PySem.W.mg_of X G a13) l13 c13 k13 fun _ _ _ _ _ _ us hl => match us, hl with | [_, _], _ => rfl
  have D14 : DefAt K mg "_law_formula_word" s_law_formula_word ["_law_names", "_law_value"] := def_mk (PySem.W.mg_of X G a14) l14 c14 k14 fun _ _ _ _ _ _ us hl => match us, hl with | [_, _], _ => rfl
  have D15 : DefAt K mg "_law_bent" s_law_bent ["_law_bag_here", "_law_names", "_law_formula_here"] := def_mk (PySem.W.mg_of X G a15) l15 c15 k15 fun _ _ _ _ _ _ us hl => match us, hl with | [_, _, _], _ => rfl
  have D16 : DefAt K mg "_law_great" s_law_great ["_law_bag_here", "_law_names", "_law_many"] := def_mk (PySem.W.mg_of X G a16) l16 c16 k16 fun _ _ _ _ _ _ us hl => match us, hl with | [_, _, _], _ => rfl
  have b_isinstance := PySem.W.mg_none_of X G z0
  have b_int := PySem.W.mg_none_of X G z1
  have b_bool := PySem.W.mg_none_of X G z2
  have b_tuple := PySem.W.mg_none_of X G z3
  have b_str := PySem.W.mg_none_of X G z4
  have b_len := PySem.W.mg_none_of X G z5
  have b_abs := PySem.W.mg_none_of X G z6
  have b_range := PySem.W.mg_none_of X G z7
  have b_repr := PySem.W.mg_none_of X G z8
  have b_list := PySem.W.mg_none_of X G z9
  have g_WORDS := PySem.W.mg_of X G wW
  have g_MAX := PySem.W.mg_of X G wM
  have hW : ∀ H, SqT K H aw wordsV := fun H => .inr ⟨_, _, _, lW, rfl, rfl, Nat.le_of_ble_eq_true rfl, .cons ⟨_, rfl⟩ (.cons ⟨_, rfl⟩ (.cons ⟨_, rfl⟩ .nil))⟩
  have FL := fun_mk (st := slaw) l17 c17 k17
  refine ⟨PySem.W.fnOf "law" "law" (defArgs slaw) (defBody slaw) (defScope slaw) .none kV17 dc17 pm17 an17 cd17 ct17, fun s v => .of_eq rfl, fun base _ _ hsys => ?_⟩
  have c1 := ok_is_whole (P := l.prog) (w := w) (base := base) D1 b_isinstance b_int b_bool
  have c2 := ok_is_tuple (P := l.prog) (w := w) (base := base) D2 b_isinstance b_tuple b_len
  have c3 := ok_part_error D6 c1 c2 b_isinstance b_str g_WORDS hW
  have c4 := ok_parts D5 c2
  have c5 := ok_size D3 c4 b_len
  have c6 := ok_formula_error D4 c4 c3 b_len g_MAX
  have c7 := ok_count (P := l.prog) (w := w) (base := base) D12 b_isinstance b_tuple 20
  have c8 := ok_part_word (P := l.prog) (w := w) (base := base) D13 b_isinstance b_tuple b_int b_bool b_str b_len 20
  have c9 := ok_formula_word D14 c8 c7
  have d1 := ok_bag (P := l.prog) (w := w) (base := base) D7 b_len b_abs b_int
  have d2 := ok_draw (P := l.prog) (w := w) (base := base) D8 b_int
  have d3 := ok_pick D9 d2 b_len
  have d4 := ok_odd D10 d3
  have d5 := ok_formula D11 d3 d2 4
  have d6 := ok_great D16 d3 d2 b_range
  have d7 := ok_bent D15 d3 d2 d4 b_isinstance b_int 20
  exact ok_law FL hsys d1 d2 d5 c5 c7 d6 d7 d4 c9 c6 b_range b_repr b_list
end K01
open PySem PySem.W PyProof.Rows
set_option maxHeartbeats 0 in
theorem PySem.Challenge.cw_solvedbothsides_k01_formulas_judged_holds : PySem.Challenge.rw_solvedbothsides_k01_formulas_judged.Holds := by
  w_on; o_law; k_head; (case hw => w_witness2)
  k_fill
  refine VK.walk_g (l := PySem.Challenge.rw_solvedbothsides_k01_formulas_judged) (n := 63) (k := 25) (x := "_law_script") (sp := fun w => K01.spLaw _) (by decide +kernel) rfl (by decide) rfl ⟨rfl, by decide, by decide⟩ (fun w h Y => PySem.W.kIn_of Y) ?F (fun _ H a ns hl _ _ hS => ⟨a, ns, rfl, hS, hl, fun _ => rfl⟩)
  case F =>
    intro w mg fa h KX G hmg
    refine' K01.all_mk KX G hmg ?a1 ?l1 ?c1 ?k1 ?a2 ?l2 ?c2 ?k2 ?a3 ?l3 ?c3 ?k3 ?a4 ?l4 ?c4 ?k4 ?a5 ?l5 ?c5 ?k5 ?a6 ?l6 ?c6 ?k6 ?a7 ?l7 ?c7 ?k7 ?a8 ?l8 ?c8 ?k8 ?a9 ?l9 ?c9 ?k9 ?a10 ?l10 ?c10 ?k10 ?a11 ?l11 ?c11 ?k11 ?a12 ?l12 ?c12 ?k12 ?a13 ?l13 ?c13 ?k13 ?a14 ?l14 ?c14 ?k14 ?a15 ?l15 ?c15 ?k15 ?a16 ?l16 ?c16 ?k16 ?a17 ?l17 ?c17 ?k17 ?z0 ?z1 ?z2 ?z3 ?z4 ?z5 ?z6 ?z7 ?z8 ?z9 ?wW ?lW ?wM
    (case a1 => k_is); (case l1 => k_is); (case c1 => k_is); (case k1 => k_is); (case a2 => k_is); (case l2 => k_is); (case c2 => k_is); (case k2 => k_is); (case a3 => k_is); (case l3 => k_is); (case c3 => k_is); (case k3 => k_is); (case a4 => k_is); (case l4 => k_is); (case c4 => k_is); (case k4 => k_is); (case a5 => k_is); (case l5 => k_is); (case c5 => k_is); (case k5 => k_is); (case a6 => k_is); (case l6 => k_is); (case c6 => k_is); (case k6 => k_is); (case a7 => k_is); (case l7 => k_is); (case c7 => k_is); (case k7 => k_is); (case a8 => k_is); (case l8 => k_is); (case c8 => k_is); (case k8 => k_is); (case a9 => k_is); (case l9 => k_is); (case c9 => k_is); (case k9 => k_is); (case a10 => k_is); (case l10 => k_is); (case c10 => k_is); (case k10 => k_is); (case a11 => k_is); (case l11 => k_is); (case c11 => k_is); (case k11 => k_is); (case a12 => k_is); (case l12 => k_is); (case c12 => k_is); (case k12 => k_is); (case a13 => k_is); (case l13 => k_is); (case c13 => k_is); (case k13 => k_is); (case a14 => k_is); (case l14 => k_is); (case c14 => k_is); (case k14 => k_is); (case a15 => k_is); (case l15 => k_is); (case c15 => k_is); (case k15 => k_is); (case a16 => k_is); (case l16 => k_is); (case c16 => k_is); (case k16 => k_is); (case a17 => k_is); (case l17 => k_is); (case c17 => k_is); (case k17 => k_is); (case z0 => k_is); (case z1 => k_is); (case z2 => k_is); (case z3 => k_is); (case z4 => k_is); (case z5 => k_is); (case z6 => k_is); (case z7 => k_is); (case z8 => k_is); (case z9 => k_is); (case wW => k_is); (case lW => k_is); (case wM => k_is)
