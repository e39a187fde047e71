import PyProof.Rows.All
import Wide.All
import OpenK.AllK
import Wide.FinOn
import HandS.ForMost
import HandS.ForExc
import HandS.IsInst
import HandS.CallLocal
import HandS.Wide
import HandS.WideBits
import HandS.Flow
import HandS.EndBits
import HandS.WrittenGet
import PyProof.ReprRoads
import HandS.More
import HandS.Walk
import PyProof.Rows.RegFStrParts
import HandS.TupAny
import HandS.TupMul
import HandS.Style
import HandS.SortInts
import HandS.Conv
import HandS.WordsDict
import KE.RegKSuper
import PySem.Challenge.RW_cellbills_k89_whole_pictures_judged
set_option Elab.async false
set_option linter.all false
set_option maxRecDepth 100000
set_option maxHeartbeats 4000000
/-! What the layer lacks: defs that may ask for a text of a list (they want to know that no such asking is under way), // by any number that is not 0, great powers, calls by keywords alone, repr of data. -/
namespace Cb
open PySem PySem.Spec PyProof.Rows L2

/-! ### numbers -/
def DivAny (_ j : Int) : Prop := j ≠ 0 ∧ j.natAbs.log2 < 9000
def PowAny (i j : Int) : Prop := 0 ≤ j ∧ (Builtin.Int.intBits i : Int) * j ≤ 2 ^ 27
section
variable {X : Cx}
theorem op_fdivA : OpR X (binaryOp .FloorDiv) (rI DivAny fun i j => .int (i.fdiv j)) :=
  opI fun _ _ _ _ _ _ _ hd q => floordiv_int hd.1 q (.inl (PyProof.noPylong_of_log2 hd.2))
theorem op_powA : OpR X (binaryOp .Pow) (rI PowAny fun i j => .int (i ^ j.toNat)) :=
  opI fun _ _ _ _ _ _ _ hd q => pow_int hd.1 hd.2 q
end

/-! ### a text of data -/
@[irreducible] def rRepr (K : PySem.W.Frag) (u : Nat) : List V → Hp → VK → Prop := fun vs H Q =>
  ∃ (v : V) (d : PyData), vs = [v] ∧ Dp K H v d ∧ d.showable = true ∧ d.hasDict = false ∧ u + (d.depth + 1) < cLine ∧ ((∃ i, d = .int i) ∨ d.shown.length ≤ sizeLine) ∧ Q (.str d.shown) H
section
variable {X : Cx}
theorem call_repr (hg : X.A.guards = some []) : CallR X (.builtin "repr") (rRepr X.K X.A.units) := by
  intro pins s σ H vs us Q I rel h
  unfold rRepr at h
  obtain ⟨v, d, rfl, hd, hs, hn, hu, hz, q⟩ := h
  obtain ⟨u, rfl, ru⟩ := vals1 rel
  obtain ⟨as, rd⟩ := Dp.reads I d v u hd ru
  cases hd with
  | non =>
    cases ru
    exact PySem.P.repr_of_none ⟨.str "None", H, I.tok _, ⟨_, rfl⟩, q⟩
  | bl b =>
    cases ru
    exact PySem.P.repr_of_bool ⟨.str (PyData.shown (.bool b)), H, I.tok _, ⟨_, rfl⟩, q⟩
  | int i =>
    obtain ⟨t, rfl⟩ := ru
    have hi : i.natAbs.log2 < 1920 := of_decide_eq_true hs
    exact PySem.P.repr_of_int hi ⟨.str (PyData.shown (.int i)), H, I.tok _, ⟨_, rfl⟩, q⟩
  | str x =>
    obtain ⟨t, rfl⟩ := ru
    exact PySem.P.repr_of_str ⟨.str (PyData.shown (.str x)), H, I.tok _, ⟨_, rfl⟩, q⟩ (hz.resolve_left fun ⟨_, z⟩ => nomatch z)
  | lst e1 e2 =>
    cases ru
    exact repr_of_reads' rd hs (PyData.noDict_hsm hn) hg hu (fun _ _ z => z) (fun h' w tk hk => ⟨.str (PyData.shown _), H, I.kept hk, ⟨_, rfl⟩, q⟩) (hz.resolve_left fun ⟨_, z⟩ => nomatch z)
  | tup e1 e2 =>
    cases ru
    exact repr_of_reads' rd hs (PyData.noDict_hsm hn) hg hu (fun _ _ z => z) (fun h' w tk hk => ⟨.str (PyData.shown _), H, I.kept hk, ⟨_, rfl⟩, q⟩) (hz.resolve_left fun ⟨_, z⟩ => nomatch z)
end

/-! ### defs that want to know what is under way -/
structure FnG (P : Program) (w : World) (K : PySem.W.Frag) (mg : Str → Option Value) (base : Heap) (c : CXT) (k : Nat) (f : Addr) (fd : FuncData) (ps : List Str) (sp : Sp) : Prop where
  long : ∀ vs H Q E, sp vs H Q E → vs.length = ps.length
  goes : ∀ A : Around, A.guards = some [] → Room k A → ∀ (around : List Env) (s : Shared) (H : Hp) (given : Args) (us : List Value) (vs : List V) (Q : VK) (E : XK),
    Env0 P w K mg base A around s H → BindsTo s fd given (ps.zip us) → Vals vs us → sp vs H Q E →
    codeAny (model P w) A (.call (.ref f) given) (CR c around P w H s Q E) s
theorem FnG.up {P : Program} {w : World} {K : PySem.W.Frag} {mg : Str → Option Value} {base : Heap} {c : CXT} {j k : Nat} {f : Addr} {fd : FuncData} {ps : List Str} {sp : Sp}
    (G : FnG P w K mg base c j f fd ps sp) (le : j ≤ k) : FnG P w K mg base c k f fd ps sp :=
  { long := G.long, goes := fun A ga room => G.goes A ga (room.mono le) }
section
variable {X : Cx} {c : CXT} {k : Nat} {f : Addr} {fd : FuncData} {ps : List Str} {sp : Sp} {dvs : List V} {ds : List Value} {E : XK} {x : Str} {p pos : Pos} {e : Expr} {es : List Expr} {t : TA}
theorem runs_g {pins : List (Addr × Obj)} {σ : L2.St} {H : Hp} {s : Shared} {Q : VK} {us : List Value} {vs : List V} (G : FnG X.prog X.w X.K X.mg X.base c k f fd ps sp) (ga : X.A.guards = some []) (room : Room k X.A)
    (bd : Binds X.K fd ps ds) (hd : Vals dvs ds) (out : Passes c X E) (I : Inv X pins σ H s) (rel : Vals vs us) (pr : sp (vs ++ dvs) H Q E) :
    wpAny (model X.prog X.w) X.A (call (.ref f) us) (EP X pins σ Q) X.xe s := by
  have all := rel.append hd
  have many : (us ++ ds).length = ps.length := all.length ▸ G.long _ _ _ _ pr
  refine wpAny_call (codeAny_mono (G.goes X.A ga room X.stack s H ⟨us, []⟩ _ _ Q E I.env0 (bd s us I.kIn many) all pr) ?_)
  intro res s2 got
  match res, got with
  | .error err, got => exact out pins σ H s err s2 I got
  | .ok (.ret u), got => exact I.after got
theorem pe_callG (G : FnG X.prog X.w X.K X.mg X.base c k f fd ps sp) (ga : X.A.guards = some []) (room : Room k X.A) (gl : Gl X x) (mm : X.mg x = some (.ref f)) (kk : PySem.W.keepIn X.K (.ref f) = true)
    (bd : Binds X.K fd ps ds) (hd : Vals dvs ds) (out : Passes c X E) (ha : PA X (e :: es) t) (nd : (x == ("__debug__" : Str)) = false := by decide)
    (se : starEach (e :: es) X.env = (false, eval e X.env) :: starEach es X.env := by rfl) (pl : (backTo pos (starEach es X.env)).any (·.1) = false := by rfl) :
    PE X (.Call (.Name x p) (e :: es) [] pos) (tCall sp dvs E t) := by
  constructor
  intro pins s σ H Q I pr
  refine wpAny_Call_Name_kw (ld_glob I gl mm (PySem.W.callWith_K (h₀ := X.base) I.ok.mod.kin kk ?_ se pl) nd)
  refine thn (ha.run pos pins s σ H _ I pr) ?_
  rintro us s1 ⟨vs, H1, J, rel, pr1⟩
  exact ⟨J.kIn, runs_g G ga room bd hd out J rel pr1⟩
end
/-! f(k = v, ..) -/
section
variable {X : Cx} {c : CXT} {k : Nat} {f : Addr} {fd : FuncData} {ps ks : List Str} {sp : Sp} {E : XK} {x : Str} {p pos : Pos} {kws : List Keyword} {tk : TA} {g : List Value → List Value → List Value} {gV : List V → List V → List V}
theorem pe_callK0 (F : FnOk X.prog X.w X.K X.mg X.base c k f fd ps sp) (room : Room k X.A) (gl : Gl X x) (mm : X.mg x = some (.ref f)) (kk : PySem.W.keepIn X.K (.ref f) = true) (kb : KBinds X.K fd ps ks g gV) (out : Passes c X E) (hk : PK X kws tk)
    (named : (backToKw pos (keywordEach kws X.env)).all (·.1.isSome) = true := by rfl) (names : (backToKw pos (keywordEach kws X.env)).filterMap (·.1) = ks := by rfl) (nd : (x == ("__debug__" : Str)) = false := by decide)
    (pl : ((backTo pos (starEach [] X.env)).any (·.1) || (backToKw pos (keywordEach kws X.env)).any (·.1.isNone)) = false := by rfl) :
    PE X (.Call (.Name x p) [] kws pos) (tCallK sp gV E tNil tk) := by
  constructor
  intro pins s σ H Q I pr
  refine wpAny_Call_Name_kw (ld_glob I gl mm (PySem.W.callWith_KW0 (h₀ := X.base) I.ok.mod.kin kk named ?_ pl) nd)
  refine thn (hk.run pos pins s σ H _ I pr) ?_
  rintro ws s1 ⟨zs, H1, J, rel, pr1⟩
  refine ⟨J.kIn, ?_⟩
  rw [names]
  exact run_fnk (us := []) (vs := []) F room kb out J .nil rel pr1
end
/-- a def of the text that wants to know it -/
theorem fun_g {P : Program} {w : World} {K : PySem.W.Frag} {mg : Str → Option Value} {base : Heap} {c : CXT} {x qual : Str} {st : Stmt} {f : Addr} {fd : FuncData} {N ps : List Str} {k : Nat} {sp : Sp}
    (F : Fun K x qual st f fd) (S : FnScope N ps (defScope st)) (long : ∀ vs H Q E, sp vs H Q E → vs.length = ps.length)
    (body : ∀ (cdv : Value) (A : Around) (around : List Env) (s : Shared) (H : Hp) (vs : List V) (Q : VK) (E : XK), A.guards = some [] → Room k (A.deeper (envOfC qual (defScope st) s.heap.objs.size f cdv)) → sp vs H Q E →
      ∃ t, PSs (cxOf c P w K mg base N qual (defScope st) f cdv A around s H E) (defBody st) t ∧ t { nx := fun _ H' => Q .non H', rt := Q } (start N vs) H) :
    FnG P w K mg base c (k + 1) f fd ps sp := by
  obtain ⟨oc, od, kV, doc, pm, an, cdv, ct, osl, rfl, lk, hcd⟩ := F.ex
  refine ⟨long, ?_⟩
  intro A ga room around s H given us vs Q E z0 bd rel pr
  have KX : K.In s.heap := z0.mod.kin.keeps fun b o q => (z0.bs b o q).1
  have lim : s.heap.NoLimit := z0.mod.nolimit.keeps fun b o q => (z0.bs b o q).1
  have where_ : ∀ y ∈ ps.zip us, (defScope st).names.lookup y.1 = some .local ∨ ((defScope st).names.lookup y.1 = some .cell ∧ ((cellsFrom (s.heap.objs.size + 1) (defScope st).names []).lookup y.1).isSome = true) := by
    rintro ⟨n, v⟩ hy
    exact (S.par n (List.of_mem_zip hy).1).imp_right fun q => ⟨q, PySem.W.cellsFrom_some _ _ _ (.inl q)⟩
  refine codeAny_call_function room.depth (KX _ _ lk) rfl S.co S.gen rfl (PySem.W.codeRec_of KX hcd) (bd _ _ _ _ (wpAny_newFunctionEnv_cells S.kind where_ ?_))
  rintro env rfl s1 fresh
  refine ⟨lim.keeps fresh.toInCall.keep, codeAny_func ?_⟩
  obtain ⟨t, ht, hq⟩ := body cdv A around s H vs Q E ga (room.deeper _) pr
  have J : Inv (cxOf c P w K mg base N qual (defScope st) f cdv A around s H E) [] (start N vs) H s1 := inv_start S room.hd z0 (long _ _ _ _ pr) rel fresh
  refine wpAny_mono (ht.run [] s1 (start N vs) H _ J hq) ?_ (fun _ _ z => z)
  intro fl s2 got
  match fl, got with
  | .ret u, ⟨v, σ2, H2, L, rv, q⟩ => exact ⟨v, H2, L.os, L.bare, L.base, L.hok, rv, q⟩
  | .next, ⟨σ2, H2, L, q⟩ => exact ⟨V.non, H2, L.os, L.bare, L.base, L.hok, rfl, q⟩
  | .brk, ⟨_, _, _, q⟩ => exact q.elim
  | .cont, ⟨_, _, _, q⟩ => exact q.elim
end Cb
set_option Elab.async false
set_option linter.all false
set_option maxRecDepth 100000
set_option maxHeartbeats 4000000
namespace Cb
open PySem PySem.Spec PyProof.Rows L2
section
variable {P : Program} {w : World} {K : PySem.W.Frag} {mg mb : Str → Option Value} {k : Nat} {fa a : Addr} {fd : FuncData} {x : Str} {sp : Sp} {s : Shared} {vs : List Value} {ns : List Int}
/-- the law's def, called with the script, from an abstract heap that knows at most the script -/
theorem enters (H : Hp) (ob : Obj) (eo : ob = { cls := .type "list", data := .seq vs.toArray }) (H1 : ∀ b u, H b = some u → b = a ∧ u = .frz ob (.lst (ns.map V.int)) ∧ K.lookup a = none) (hS : SqL K H a (ns.map V.int)) (hok : HOk P w H s.heap)
    (KX : K.In s.heap) (g1 : s.heap.Ns mainGlobals mg) (g2 : s.heap.Ns builtinsNs mb) (g3 : ∀ x : Str, x ≠ "__name__" → mb x = bootBuiltins x) (g4 : s.heap.NoLimit) (g5 : s.gens = #[])
    (at_ : s.heap.get? a = some ob) (room : Room k callerA)
    (G : ∀ base : Heap, K.In base → base.Ns mainGlobals mg → FnG P w K mg base CX0 k fa fd [x] sp) (bd : ∀ (s : Shared) (u : Value), BindsTo s fd ⟨[u], []⟩ [(x, u)])
    (pr : sp [.ref a] H (fun v _ => v = .bl true) fun _ _ _ => False) :
    codeAny (model P w) callerA (.call (.ref fa) ⟨[.ref a], []⟩) (fun r s' => r = .ok (.ret (.bool true)) ∧ OldK s.heap s'.heap ∧ s'.os = s.os ∧ AllBare s'.gens) s := by
  have off : ∀ {b : Addr} {o : Obj}, s.heap.get? b = some o → o ≠ ob → H b = none := by
    intro b o e ne
    cases z : H b with
    | none => rfl
    | some u =>
      obtain ⟨rfl, _, _⟩ := H1 b u z
      exact absurd (Option.some.inj (e.symm.trans at_)) ne
  have offD : ∀ {b : Addr} {o : Obj} {es : Array DictEntry} {ep : Nat}, s.heap.get? b = some o → o.data = .dict es ep → H b = none := fun {b o es ep} e d => off e (by
    rintro rfl
    rw [eo] at d
    cases d)
  have hid : ∀ {b : Addr} {m : Str → Option Value}, s.heap.Ns b m → (hidT s.heap H).Ns b m := by
    rintro b m ⟨o, es, ep, e, d, r⟩
    exact ⟨o, es, ep, hidT_get e (offD e d), d, r⟩
  have KB : K.In (hidT s.heap H) := by
    intro b o e
    refine hidT_get (KX b o e) ?_
    cases z : H b with
    | none => rfl
    | some u =>
      obtain ⟨rfl, _, no⟩ := H1 b u z
      rw [no] at e
      cases e
  obtain ⟨mc, l1, l2⟩ := g4
  have z0 : Env0 P w K mg (hidT s.heap H) callerA [] s H :=
    { frames := rfl, mod := ⟨KB, hid g1, ⟨mb, hid g2, g3⟩, ⟨mc, hid l1, l2⟩⟩, bs := fun b o e => of_hidT e, bsz := Nat.le_of_eq (hidT_size _ _), funs := trivial
      frf := fun b hb => absurd (show b ∈ ([] : List Addr) from hb) List.not_mem_nil, hok := hok, bare := .of_eq g5 }
  refine codeAny_mono ((G _ KB (hid g1)).goes callerA rfl room [] s H ⟨[.ref a], []⟩ [.ref a] [.ref a] _ _ z0 (bd s (.ref a)) (.cons rfl .nil) pr) ?_
  intro res s2 got
  match res, got with
  | .ok (.ret u), got =>
    obtain ⟨v, H', os, bare, un, hok', rv, ev⟩ := got
    obtain rfl : v = V.bl true := ev
    obtain rfl : u = Value.bool true := rv
    refine ⟨rfl, OldK.of_keep ?_, os, bare⟩
    intro b o e
    cases z : H b with
    | none => exact un.keep b o e z (fun q => absurd (show b ∈ ([] : List Addr) from q) List.not_mem_nil) (by simp)
    | some u =>
      obtain ⟨rfl, rfl, _⟩ := H1 b u z
      have z2 := un.frzs b ob _ z
      obtain ⟨q1, _⟩ := hok b _ z
      obtain ⟨q2, _⟩ := hok' b _ z2
      exact (Option.some.inj (e.symm.trans q1)) ▸ q2
theorem enter (hobj : s.heap.get? a = some { cls := .type "list", data := .seq vs.toArray }) (hi : IntsAre vs ns) (hl : ns.length ≤ sizeLine)
    (KX : K.In s.heap) (g1 : s.heap.Ns mainGlobals mg) (g2 : s.heap.Ns builtinsNs mb) (g3 : ∀ x : Str, x ≠ "__name__" → mb x = bootBuiltins x) (g4 : s.heap.NoLimit) (g5 : s.gens = #[]) (room : Room k callerA)
    (G : ∀ base : Heap, K.In base → base.Ns mainGlobals mg → FnG P w K mg base CX0 k fa fd [x] sp) (bd : ∀ (s : Shared) (u : Value), BindsTo s fd ⟨[u], []⟩ [(x, u)])
    (pr : ∀ H : Hp, SqL K H a (ns.map V.int) → sp [.ref a] H (fun v _ => v = .bl true) fun _ _ _ => False) :
    codeAny (model P w) callerA (.call (.ref fa) ⟨[.ref a], []⟩) (fun r s' => r = .ok (.ret (.bool true)) ∧ OldK s.heap s'.heap ∧ s'.os = s.os ∧ AllBare s'.gens) s := by
  have rel := vals_ints hi
  cases hk : K.lookup a with
  | some o =>
    have same := Option.some.inj ((KX a o hk).symm.trans hobj)
    have hS : SqL K (fun _ => none) a (ns.map V.int) := .inr ⟨o, vs.toArray, _, hk, by rw [same], by rw [same], by rw [same], by rw [List.size_toArray, hi.length]; exact hl, rel⟩
    exact enters (fun _ => none) _ rfl (fun b u z => nomatch (show (none : Option HO) = some u from z)) hS (fun b u z => nomatch (show (none : Option HO) = some u from z)) KX g1 g2 g3 g4 g5 hobj room G bd (pr _ hS)
  | none =>
    let ob : Obj := { cls := .type "list", data := .seq vs.toArray }
    let H : Hp := fun b => if b = a then some (.frz ob (.lst (ns.map V.int))) else none
    have H1 : ∀ b u, H b = some u → b = a ∧ u = .frz ob (.lst (ns.map V.int)) ∧ K.lookup a = none := by
      intro b u z
      by_cases q : b = a
      · exact ⟨q, (Option.some.inj ((if_pos q).symm.trans z)).symm, hk⟩
      · exact nomatch ((if_neg q).symm.trans z : (none : Option HO) = some u)
    have hS : SqL K H a (ns.map V.int) := .inl (.inr ⟨ob, if_pos rfl⟩)
    refine enters H ob rfl H1 hS ?_ KX g1 g2 g3 g4 g5 hobj room G bd (pr _ hS)
    intro b u z
    obtain ⟨rfl, rfl, _⟩ := H1 b u z
    exact ⟨hobj, by rw [List.length_map]; exact hl, vs, _, rel, hobj⟩
end
/-- the goal that k_head leaves, for a law's def that wants to know what is under way; the script's ints with their bits -/
theorem walk_g {l : PySem.W.OpenLaw} {n k : Nat} {q : Program} {loose : List Str} {XP : (Str → Option Value) → Heap → Prop} {YP : World → Heap → Prop} {d : DefRec} {K : Params → PySem.W.Frag} {sp : PySem.W.Frag → Sp} {x : Str}
    (hn : l.most = some n) (small : n ≤ sizeLine) (plain : d.params.defaults = []) (room : Room k callerA) (hK : ∀ (w : World) (h : Heap), YP w h → (K w.params).In h)
    (G : ∀ (w : World) (mg : Str → Option Value) (fa : Addr) (h : Heap), (K w.params).In h → h.Ns mainGlobals mg → mg d.name = some (.ref fa) →
      ∃ fd : FuncData, (∀ (s : Shared) (u : Value), BindsTo s fd ⟨[u], []⟩ [(x, u)]) ∧ ∀ base : Heap, (K w.params).In base → base.Ns mainGlobals mg → FnG l.prog w (K w.params) mg base CX0 k fa fd [x] (sp (K w.params)))
    (pr : ∀ (K : PySem.W.Frag) (H : Hp) (a : Addr) (ns : List Int), ns.length ≤ n → (∀ i ∈ ns, Builtin.Int.intBits i ≤ 1048576) → SqL K H a (ns.map V.int) → sp K [.ref a] H (fun v _ => v = .bl true) fun _ _ _ => False) :
    PySem.W.WalkO q loose XP YP l.row.toRowW d [] (fun f vs => PySem.call f vs) := by
  refine Att.attach_callB hn plain ?_
  intro w s0 s mg mb fa o pm cd doc a vs ns A Y _ _ _ hmg hobj hints hlen hbits hg
  have KX := hK w _ Y
  obtain ⟨fd, bd, GG⟩ := G w mg fa _ KX A.T.g hmg
  exact enter hobj hints (Nat.le_trans hlen small) KX A.T.g A.T.b A.T.builtins A.T.nolimit hg room GG bd fun H hS => pr _ H a ns hlen hbits hS
end Cb
set_option Elab.async false
set_option linter.all false
set_option maxRecDepth 100000
set_option maxHeartbeats 4000000
namespace Cb
open PySem PySem.Spec PyProof.Rows L2
/-- a def stands under its name -/
def Has (K : PySem.W.Frag) (mg : Str → Option Value) (x : Str) (st : Stmt) (ps : List Str) : Prop :=
  ∃ (f : Addr) (fd : FuncData), Fun K x x st f fd ∧ mg x = some (.ref f) ∧ Binds K fd ps []
/-- it keeps a promise -/
def Says (P : Program) (w : World) (K : PySem.W.Frag) (mg : Str → Option Value) (base : Heap) (k : Nat) (x : Str) (ps : List Str) (sp : Sp) : Prop :=
  ∃ (f : Addr) (fd : FuncData), FnOk P w K mg base CX0 k f fd ps sp ∧ mg x = some (.ref f) ∧ PySem.W.keepIn K (.ref f) = true ∧ Binds K fd ps []
def SaysG (P : Program) (w : World) (K : PySem.W.Frag) (mg : Str → Option Value) (base : Heap) (k : Nat) (x : Str) (ps : List Str) (sp : Sp) : Prop :=
  ∃ (f : Addr) (fd : FuncData), FnG P w K mg base CX0 k f fd ps sp ∧ mg x = some (.ref f) ∧ PySem.W.keepIn K (.ref f) = true ∧ Binds K fd ps []
/-- also by keywords alone, in an order of their own: g puts them in the parameters' order -/
def kOnly (g : {α : Type} → List α → List α) : {α : Type} → List α → List α → List α
  | _, [], ws => g ws
  | _, _ :: _, _ => []
def SaysK (P : Program) (w : World) (K : PySem.W.Frag) (mg : Str → Option Value) (base : Heap) (k : Nat) (x : Str) (ps ks : List Str) (g : {α : Type} → List α → List α) (sp : Sp) : Prop :=
  ∃ (f : Addr) (fd : FuncData), FnOk P w K mg base CX0 k f fd ps sp ∧ mg x = some (.ref f) ∧ PySem.W.keepIn K (.ref f) = true ∧ KBinds K fd ps ks (kOnly g) (kOnly g)
def HasK (K : PySem.W.Frag) (mg : Str → Option Value) (x : Str) (st : Stmt) (ps ks : List Str) (g : {α : Type} → List α → List α) : Prop :=
  ∃ (f : Addr) (fd : FuncData), Fun K x x st f fd ∧ mg x = some (.ref f) ∧ KBinds K fd ps ks (kOnly g) (kOnly g)
/-- a def's body keeps a promise -/
abbrev Body (P : Program) (w : World) (K : PySem.W.Frag) (mg : Str → Option Value) (base : Heap) (k : Nat) (x : Str) (st : Stmt) (N : List Str) (sp : Sp) : Prop :=
  ∀ (f : Addr) (cdv : Value) (A : Around) (outer : List Env) (s : Shared) (H : Hp) (vs : List V) (Q : VK) (E : XK), Room k (A.deeper (envOfC x (defScope st) s.heap.objs.size f cdv)) → sp vs H Q E →
      ∃ t, PSs (cxOf CX0 P w K mg base N x (defScope st) f cdv A outer s H E).nox (defBody st) t ∧ t { nx := fun _ H' => Q .non H', rt := Q } (start N vs) H
section
variable {P : Program} {w : World} {K : PySem.W.Frag} {mg : Str → Option Value} {base : Heap} {k : Nat} {x : Str} {st : Stmt} {N ps : List Str} {sp : Sp}
theorem has {f : Addr} {oc : Value} {od an : Option Addr} {osl : Array (Option Value)} {kV doc pm cdv ct : Value} {h : Heap} (X : K.In h) (G : h.Ns mainGlobals mg) (a : PySem.W.nsIn K mainGlobals x = some (some (.ref f)))
    (l : K.lookup f = some ⟨oc, od, .func (PySem.W.fnOf x x (defArgs st) (defBody st) (defScope st) .none kV doc pm an cdv ct), osl⟩) (c : PySem.W.codeIn K cdv x = true) (kp : PySem.W.keepIn K (.ref f) = true)
    (b : ∀ (kV doc pm : Value) (an : Option Addr) (cdv ct : Value) (us : List Value), us.length = ps.length → bindArgs (PySem.W.fnOf x x (defArgs st) (defBody st) (defScope st) .none kV doc pm an cdv ct) ⟨us, []⟩ = pure (ps.zip us)) :
    Has K mg x st ps := ⟨f, _, fun_mk l c kp, PySem.W.mg_of X G a, (fun_mk l c kp).binds b⟩
theorem says (h : Has K mg x st ps) (S : FnScope N ps (defScope st)) (len : ∀ vs H Q E, sp vs H Q E → vs.length = ps.length)
    (body : ∀ (f : Addr) (cdv : Value) (A : Around) (outer : List Env) (s : Shared) (H : Hp) (vs : List V) (Q : VK) (E : XK), Room k (A.deeper (envOfC x (defScope st) s.heap.objs.size f cdv)) → sp vs H Q E →
      ∃ t, PSs (cxOf CX0 P w K mg base N x (defScope st) f cdv A outer s H E).nox (defBody st) t ∧ t { nx := fun _ H' => Q .non H', rt := Q } (start N vs) H) : Says P w K mg base (k + 1) x ps sp := by
  obtain ⟨f, fd, F, hm, b⟩ := h
  exact ⟨f, fd, F.ok S len fun cdv A outer s H vs Q E => body f cdv A outer s H vs Q E, hm, F.kp, b⟩
theorem saysK {ks : List Str} {g : {α : Type} → List α → List α} (h : HasK K mg x st ps ks g) (S : FnScope N ps (defScope st)) (len : ∀ vs H Q E, sp vs H Q E → vs.length = ps.length) (body : Body P w K mg base k x st N sp) : SaysK P w K mg base (k + 1) x ps ks g sp := by
  obtain ⟨f, fd, F, hm, b⟩ := h
  exact ⟨f, fd, F.ok S len fun cdv A outer s H vs Q E => body f cdv A outer s H vs Q E, hm, F.kp, b⟩
/-- one, and two turned about -/
theorem kb1 {fd : FuncData} {p : Str} (h : ∀ v : Value, bindArgs fd ⟨[], [(p, v)]⟩ = pure [(p, v)]) : KBinds K fd [p] [p] (kOnly fun l => l) (kOnly fun l => l) where
  to := fun s us ws _ hl => match us, ws, hl with
    | [], [v], _ => .of_eq (h v)
  rel := fun {vs us zs ws} r1 r2 => by
    cases r1 with
    | nil => exact r2
    | cons _ _ => exact .nil
theorem vals_rev {vs : List V} {us : List Value} (r : Vals vs us) : Vals vs.reverse us.reverse := by
  induction r with
  | nil => exact .nil
  | cons h _ ih =>
    rw [List.reverse_cons, List.reverse_cons]
    exact ih.append (.cons h .nil)
theorem kb2 {fd : FuncData} {p q : Str} (h : ∀ u v : Value, bindArgs fd ⟨[], [(q, u), (p, v)]⟩ = pure [(p, v), (q, u)]) : KBinds K fd [p, q] [q, p] (kOnly List.reverse) (kOnly List.reverse) where
  to := fun s us ws _ hl => match us, ws, hl with
    | [], [u, v], _ => .of_eq (h u v)
    | [], [], hl => nomatch hl
    | [], [_], hl => nomatch hl
    | [], _ :: _ :: _ :: _, hl => by
      have z : (List.reverse (_ :: _ :: _ :: _) : List Value).length = 2 := hl
      rw [List.length_reverse] at z
      simp at z
  rel := fun {vs us zs ws} r1 r2 => by
    cases r1 with
    | nil => exact vals_rev r2
    | cons _ _ => exact .nil
theorem hasK {ks : List Str} {gk : {α : Type} → List α → List α} {f : Addr} {oc : Value} {od an : Option Addr} {osl : Array (Option Value)} {kV doc pm cdv ct : Value} {h : Heap} (X : K.In h) (G : h.Ns mainGlobals mg) (a : PySem.W.nsIn K mainGlobals x = some (some (.ref f)))
    (l : K.lookup f = some ⟨oc, od, .func (PySem.W.fnOf x x (defArgs st) (defBody st) (defScope st) .none kV doc pm an cdv ct), osl⟩) (c : PySem.W.codeIn K cdv x = true) (kp : PySem.W.keepIn K (.ref f) = true)
    (b : KBinds K (PySem.W.fnOf x x (defArgs st) (defBody st) (defScope st) .none kV doc pm an cdv ct) ps ks (kOnly gk) (kOnly gk)) :
    HasK K mg x st ps ks gk := ⟨f, _, fun_mk l c kp, PySem.W.mg_of X G a, b⟩
theorem saysG (h : Has K mg x st ps) (S : FnScope N ps (defScope st)) (len : ∀ vs H Q E, sp vs H Q E → vs.length = ps.length)
    (body : ∀ (f : Addr) (cdv : Value) (A : Around) (outer : List Env) (s : Shared) (H : Hp) (vs : List V) (Q : VK) (E : XK), A.guards = some [] → Room k (A.deeper (envOfC x (defScope st) s.heap.objs.size f cdv)) → sp vs H Q E →
      ∃ t, PSs (cxOf CX0 P w K mg base N x (defScope st) f cdv A outer s H E).nox (defBody st) t ∧ t { nx := fun _ H' => Q .non H', rt := Q } (start N vs) H) : SaysG P w K mg base (k + 1) x ps sp := by
  obtain ⟨f, fd, F, hm, b⟩ := h
  exact ⟨f, fd, fun_g F S len fun cdv A outer s H vs Q E ga hr h => (body f cdv A outer s H vs Q E ga hr h).imp fun _ z => ⟨z.1.nox, z.2⟩, hm, F.kp, b⟩
theorem fnG {f : Addr} {fd : FuncData} (F : Fun K x x st f fd) (S : FnScope N ps (defScope st)) (len : ∀ vs H Q E, sp vs H Q E → vs.length = ps.length)
    (body : ∀ (f : Addr) (cdv : Value) (A : Around) (outer : List Env) (s : Shared) (H : Hp) (vs : List V) (Q : VK) (E : XK), A.guards = some [] → Room k (A.deeper (envOfC x (defScope st) s.heap.objs.size f cdv)) → sp vs H Q E →
      ∃ t, PSs (cxOf CX0 P w K mg base N x (defScope st) f cdv A outer s H E).nox (defBody st) t ∧ t { nx := fun _ H' => Q .non H', rt := Q } (start N vs) H) : FnG P w K mg base CX0 (k + 1) f fd ps sp :=
  fun_g F S len fun cdv A outer s H vs Q E ga hr h => (body f cdv A outer s H vs Q E ga hr h).imp fun _ z => ⟨z.1.nox, z.2⟩
theorem Says.imp {sp' : Sp} (c : Says P w K mg base k x ps sp) (h : ∀ vs H Q E, sp' vs H Q E → sp vs H Q E) : Says P w K mg base k x ps sp' := by
  obtain ⟨f, fd, F, hm, kp, b⟩ := c
  exact ⟨f, fd, F.imp h, hm, kp, b⟩
end
section
variable {X : Cx} {k j : Nat} {x : Str} {ps ks : List Str} {sp : Sp} {p pos : Pos} {e : Expr} {es : List Expr} {t tk : TA} {kws : List Keyword} {g : {α : Type} → List α → List α}
theorem pe_s (c : Says X.prog X.w X.K X.mg X.base k x ps sp) (hr : Room j X.A) (ha : PA X (e :: es) t) (le : k ≤ j := by decide) (gl : Gl X x := by rfl) (nd : (x == ("__debug__" : Str)) = false := by decide)
    (se : starEach (e :: es) X.env = (false, eval e X.env) :: starEach es X.env := by rfl) (pl : (backTo pos (starEach es X.env)).any (·.1) = false := by rfl) : PE X (.Call (.Name x p) (e :: es) [] pos) (tCall sp [] E0 t) := by
  obtain ⟨f, fd, F, hm, kp, b⟩ := c
  exact pe_call F (hr.mono le) gl hm kp b .nil pass0 ha nd se pl
theorem pe_g (c : SaysG X.prog X.w X.K X.mg X.base k x ps sp) (ga : X.A.guards = some []) (hr : Room j X.A) (ha : PA X (e :: es) t) (le : k ≤ j := by decide) (gl : Gl X x := by rfl) (nd : (x == ("__debug__" : Str)) = false := by decide)
    (se : starEach (e :: es) X.env = (false, eval e X.env) :: starEach es X.env := by rfl) (pl : (backTo pos (starEach es X.env)).any (·.1) = false := by rfl) : PE X (.Call (.Name x p) (e :: es) [] pos) (tCall sp [] E0 t) := by
  obtain ⟨f, fd, F, hm, kp, b⟩ := c
  exact pe_callG F ga (hr.mono le) gl hm kp b .nil pass0 ha nd se pl
theorem pe_k0 (c : SaysK X.prog X.w X.K X.mg X.base k x ps ks g sp) (hr : Room j X.A) (hk : PK X kws tk) (le : k ≤ j := by decide) (gl : Gl X x := by rfl)
    (named : (backToKw pos (keywordEach kws X.env)).all (·.1.isSome) = true := by rfl) (names : (backToKw pos (keywordEach kws X.env)).filterMap (·.1) = ks := by rfl) (nd : (x == ("__debug__" : Str)) = false := by decide)
    (pl : ((backTo pos (starEach [] X.env)).any (·.1) || (backToKw pos (keywordEach kws X.env)).any (·.1.isNone)) = false := by rfl) : PE X (.Call (.Name x p) [] kws pos) (tCallK sp (kOnly g) E0 tNil tk) := by
  obtain ⟨f, fd, F, hm, kp, b⟩ := c
  exact pe_callK0 F (hr.mono le) gl hm kp b pass0 hk named names nd pl
end
/-! ### heaps -/
theorem upd_self {H : Hp} {a : Addr} {o : HO} (h : H a = some o) : upd H a o = H := by
  funext b
  by_cases q : b = a
  · rw [q, upd_same, h]
  · rw [upd_ne q]
theorem same_new {H : Hp} {p : Addr} {o : HO} (h : H p = none) : Same H (upd H p o) := fun b u e => by
  rw [upd_ne (ne_of_none e h)]
  exact e
end Cb
set_option Elab.async false
set_option linter.all false
set_option maxRecDepth 100000
set_option maxHeartbeats 4000000
/-! Data that the calls themselves have made: what stands at an address is a list, a tuple or an empty dict of such. -/
namespace Cb
open PySem PySem.Spec PyProof.Rows L2
mutual
inductive DT (H : Hp) : V → PyData → Prop
  | non : DT H .non .none
  | bl (b : Bool) : DT H (.bl b) (.bool b)
  | int (i : Int) : DT H (.int i) (.int i)
  | str (z : Str) : DT H (.str z) (.str z)
  | lst {a : Addr} {xs : List V} {ds : List PyData} : H a = some (.lst xs) → DTs H xs ds → DT H (.ref a) (.list ds)
  | tup {a : Addr} {xs : List V} {ds : List PyData} : H a = some (.tup xs) → DTs H xs ds → DT H (.ref a) (.tuple ds)
  | dct {a : Addr} : H a = some (.dK []) → DT H (.ref a) (.dict [])
inductive DTs (H : Hp) : List V → List PyData → Prop
  | nil : DTs H [] []
  | cons {v : V} {vs : List V} {d : PyData} {ds : List PyData} : DT H v d → DTs H vs ds → DTs H (v :: vs) (d :: ds)
end
mutual
theorem DT.same {H H' : Hp} (s : Same H H') : ∀ (d : PyData) {v : V}, DT H v d → DT H' v d
  | .none, _, h => by cases h; exact .non
  | .bool _, _, h => by cases h; exact .bl _
  | .int _, _, h => by cases h; exact .int _
  | .str _, _, h => by cases h; exact .str _
  | .list ds, _, h => by
    cases h with
    | lst e r => exact .lst (s _ _ e) (DTs.same s ds r)
  | .tuple ds, _, h => by
    cases h with
    | tup e r => exact .tup (s _ _ e) (DTs.same s ds r)
  | .dict _, _, h => by
    cases h with
    | dct e => exact .dct (s _ _ e)
theorem DTs.same {H H' : Hp} (s : Same H H') : ∀ (ds : List PyData) {vs : List V}, DTs H vs ds → DTs H' vs ds
  | [], _, h => by cases h; exact .nil
  | d :: ds, _, h => by
    cases h with
    | cons a r => exact .cons (DT.same s d a) (DTs.same s ds r)
end
theorem DTs.length {H : Hp} : ∀ {ds : List PyData} {vs : List V}, DTs H vs ds → vs.length = ds.length
  | [], _, h => by cases h; rfl
  | d :: ds, _, h => by
    cases h with
    | cons a r =>
      rw [List.length_cons, List.length_cons, DTs.length r]
theorem DTs.get {H : Hp} : ∀ {ds : List PyData} {vs : List V} {j : Nat} {v : V} {d : PyData}, DTs H vs ds → vs[j]? = some v → ds[j]? = some d → DT H v d
  | [], _, j, v, d, h, e, f => by simp at f
  | d0 :: ds, _, 0, v, d, h, e, f => by
    cases h with
    | cons a r =>
      simp at e f
      rw [← e, ← f]
      exact a
  | d0 :: ds, _, j + 1, v, d, h, e, f => by
    cases h with
    | cons a r =>
      simp at e f
      exact r.get e f
/-! ### types -/
def tyN : PyData → String
  | .none => "NoneType"
  | .bool _ => "bool"
  | .int _ => "int"
  | .str _ => "str"
  | .list _ => "list"
  | .tuple _ => "tuple"
  | .dict _ => "dict"
def isS : PyData → Bool
  | .str _ => true
  | _ => false
def isL : PyData → Bool
  | .list _ => true
  | _ => false
def isTu : PyData → Bool
  | .tuple _ => true
  | _ => false
theorem DT.ty {K : PySem.W.Frag} {H : Hp} {v : V} : ∀ {d : PyData}, DT H v d → TyX K H v (.type (tyN d))
  | .none, h => by cases h; exact .base .non
  | .bool _, h => by cases h; exact .base (.bl _)
  | .int _, h => by cases h; exact .base (.int _)
  | .str _, h => by cases h; exact .base (.str _)
  | .list _, h => by
    cases h with
    | lst e _ => exact .base (.lst e)
  | .tuple _, h => by
    cases h with
    | tup e _ => exact .base (.tup e)
  | .dict _, h => by
    cases h with
    | dct e => exact .base (.dK e)
theorem kit_s : ∀ d : PyData, kitB (tyN d) "str" = some (isS d)
  | .none => by show kitB "NoneType" "str" = some false; decide +kernel
  | .bool _ => by show kitB "bool" "str" = some false; decide +kernel
  | .int _ => by show kitB "int" "str" = some false; decide +kernel
  | .str _ => by show kitB "str" "str" = some true; decide +kernel
  | .list _ => by show kitB "list" "str" = some false; decide +kernel
  | .tuple _ => by show kitB "tuple" "str" = some false; decide +kernel
  | .dict _ => by show kitB "dict" "str" = some false; decide +kernel
theorem kit_l : ∀ d : PyData, kitB (tyN d) "list" = some (isL d)
  | .none => by show kitB "NoneType" "list" = some false; decide +kernel
  | .bool _ => by show kitB "bool" "list" = some false; decide +kernel
  | .int _ => by show kitB "int" "list" = some false; decide +kernel
  | .str _ => by show kitB "str" "list" = some false; decide +kernel
  | .list _ => by show kitB "list" "list" = some true; decide +kernel
  | .tuple _ => by show kitB "tuple" "list" = some false; decide +kernel
  | .dict _ => by show kitB "dict" "list" = some false; decide +kernel
theorem kit_t : ∀ d : PyData, kitB (tyN d) "tuple" = some (isTu d)
  | .none => by show kitB "NoneType" "tuple" = some false; decide +kernel
  | .bool _ => by show kitB "bool" "tuple" = some false; decide +kernel
  | .int _ => by show kitB "int" "tuple" = some false; decide +kernel
  | .str _ => by show kitB "str" "tuple" = some false; decide +kernel
  | .list _ => by show kitB "list" "tuple" = some false; decide +kernel
  | .tuple _ => by show kitB "tuple" "tuple" = some true; decide +kernel
  | .dict _ => by show kitB "dict" "tuple" = some false; decide +kernel
/-- what a call of isinstance asks of data -/
theorem isi_s {K : PySem.W.Frag} {H : Hp} {v : V} {d : PyData} {Q : VK} (h : DT H v d) (q : Q (.bl (isS d)) H) : rIsi K [v, .ty "str"] H Q := ⟨_, _, _, _, _, rfl, .ty _, h.ty, kit_ty (kit_s d), q⟩
theorem isi_l {K : PySem.W.Frag} {H : Hp} {v : V} {d : PyData} {Q : VK} (h : DT H v d) (q : Q (.bl (isL d)) H) : rIsi K [v, .ty "list"] H Q := ⟨_, _, _, _, _, rfl, .ty _, h.ty, kit_ty (kit_l d), q⟩
theorem isi_t {K : PySem.W.Frag} {H : Hp} {v : V} {d : PyData} {Q : VK} (h : DT H v d) (q : Q (.bl (isTu d)) H) : rIsi K [v, .ty "tuple"] H Q := ⟨_, _, _, _, _, rfl, .ty _, h.ty, kit_ty (kit_t d), q⟩
/-! ### for the reckoning by ==: without dicts -/
mutual
def plain : PyData → Bool
  | .dict _ => false
  | .list ds => plains ds
  | .tuple ds => plains ds
  | _ => true
def plains : List PyData → Bool
  | [] => true
  | d :: ds => plain d && plains ds
end
mutual
theorem DT.dp {K : PySem.W.Frag} {H : Hp} : ∀ {d : PyData} {v : V}, plain d = true → DT H v d → Dp K H v d
  | .none, _, _, h => by cases h; exact .non
  | .bool _, _, _, h => by cases h; exact .bl _
  | .int _, _, _, h => by cases h; exact .int _
  | .str _, _, _, h => by cases h; exact .str _
  | .list ds, _, p, h => by
    cases h with
    | lst e r => exact .lst (SqL.of e) (DTs.dp (ds := ds) (by simpa [plain] using p) r)
  | .tuple ds, _, p, h => by
    cases h with
    | tup e r => exact .tup (SqT.of e) (DTs.dp (ds := ds) (by simpa [plain] using p) r)
  | .dict _, _, p, _ => by simp [plain] at p
theorem DTs.dp {K : PySem.W.Frag} {H : Hp} : ∀ {ds : List PyData} {vs : List V}, plains ds = true → DTs H vs ds → DpAll K H vs ds
  | [], _, _, h => by cases h; exact .nil
  | d :: ds, _, p, h => by
    cases h with
    | cons a r =>
      have p2 : plain d = true ∧ plains ds = true := by simpa [plains] using p
      exact .cons (DT.dp (d := d) p2.1 a) (DTs.dp (ds := ds) p2.2 r)
end
/-! ### lists made one by one, over any walk -/
theorem lc_mapW {J : It} {n : Nat} {G : Hp → Prop} {Y : Nat → Hp → V → Hp → Prop} {i : Nat} {te : TE} {σ : L2.St} {H1 : Hp} {D : Addr} {Qd : Hp → Prop} {ys : List V} (w : Walk J n G Y) (g0 : ∀ H, Same H1 H → G H) (y0 : ∀ j H x H', Y j H x H' → H' = H) (hD : H1 D = none) (len : ys.length = n) (small : n < 1000)
    (hs : ∀ (j : Nat) (x y : V) (H' : Hp) (Q : VK), Same H1 H' → Y j H' x H' → ys[j]? = some y → (∀ H'', Same H' H'' → Q y H'') → te ((wipe σ [i]).set i (some x)) H' Q)
    (hd : ∀ H', Same H1 H' → H' D = some (.lst ys) → Qd H') :
    ∃ W : Nat → Nat → Hp → Prop, (∃ m, W 0 m (upd H1 D (.lst []))) ∧ ∀ k m H, W k m H →
      (J.stop k H ∧ Qd H) ∨ (J.go k H ∧ ∃ Nx : Hp → Prop, (∀ H', Nx H' → ∃ m', m' < m ∧ W (k + 1) m' H') ∧ ∀ x H', J.yld k H x H' → gName i x (wipe σ [i]) H' fun σ2 H2 => wipe σ2 [i] = wipe σ [i] ∧ tYes σ2 H2 fun b H3 =>
        if b = true then te σ2 H3 fun y H4 => ∃ acc, H4 D = some (.lst acc) ∧ acc.length < sizeLine ∧ Nx (upd H4 D (.lst (acc ++ [y]))) else Nx H3) := by
  refine lc_it w (fun j H' => Same H1 H' ∧ H' D = some (.lst (ys.take j))) ⟨same_new hD, upd_same⟩ (fun j H' _ z => g0 H' z.1) ?_ ?_
  · rintro j x H H' hj ⟨s1, hd1⟩ y
    obtain rfl := y0 _ _ _ _ y
    have hy : ys[j]? = some ys[j] := List.getElem?_eq_getElem (by omega)
    refine ⟨?_, ?_⟩
    · show ((wipe σ [i]).set i (some x)).set i none = wipe σ [i]
      show ((σ.set i none).set i (some x)).set i none = σ.set i none
      rw [List.set_set, List.set_set]
    · show te ((wipe σ [i]).set i (some x)) H' _
      refine hs j x _ H' _ s1 y hy ?_
      intro H'' s2
      have e2 := s2 _ _ hd1
      refine ⟨_, e2, ?_, ?_, ?_⟩
      · rw [List.length_take]
        exact Nat.lt_of_le_of_lt (Nat.min_le_right _ _) (by rw [len]; exact small1000 (by omega))
      · intro b o e
        rw [upd_ne (ne_of_none e hD)]
        exact s2 _ _ (s1 _ _ e)
      · rw [upd_same, List.take_add_one, hy]
        rfl
  · rintro H' ⟨s1, hd1⟩
    rw [List.take_of_length_le (by omega)] at hd1
    exact hd H' s1 hd1
end Cb
set_option Elab.async false
set_option linter.all false
set_option maxRecDepth 100000
set_option maxHeartbeats 4000000
namespace Cb
open PySem PySem.Spec PyProof.Rows L2
/-! ### data that can be laid out and compared -/
mutual
def good : PyData → Bool
  | .none => true
  | .bool _ => true
  | .int _ => true
  | .str z => PyData.strOk z && decide (z.length ≤ 1000)
  | .list ds => decide (ds.length < 1000) && goods ds
  | .tuple ds => decide (ds.length < 1000) && goods ds
  | .dict _ => false
def goods : List PyData → Bool
  | [] => true
  | d :: ds => good d && goods ds
end
theorem goods_mem : ∀ {ds : List PyData} {d : PyData}, goods ds = true → d ∈ ds → good d = true
  | [], _, _, h => by cases h
  | e :: ds, d, g, h => by
    have g2 : good e = true ∧ goods ds = true := by simpa [goods] using g
    rcases List.mem_cons.mp h with rfl | h
    · exact g2.1
    · exact goods_mem g2.2 h
mutual
theorem good_can : ∀ d : PyData, good d = true → d.canLay0 = true
  | .none, _ => by simp [PyData.canLay0]
  | .bool _, _ => by simp [PyData.canLay0]
  | .int _, _ => by simp [PyData.canLay0]
  | .str z, h => by
    have h2 : PyData.strOk z = true ∧ z.length ≤ 1000 := by simpa [good] using h
    simpa [PyData.canLay0] using h2.1
  | .list ds, h => by
    have h2 : ds.length < 1000 ∧ goods ds = true := by simpa [good] using h
    simpa [PyData.canLay0] using goods_can ds h2.2
  | .tuple ds, h => by
    have h2 : ds.length < 1000 ∧ goods ds = true := by simpa [good] using h
    simpa [PyData.canLay0] using goods_can ds h2.2
  | .dict _, h => by simp [good] at h
theorem goods_can : ∀ ds : List PyData, goods ds = true → PyData.canLayAll0 ds = true
  | [], _ => by simp [PyData.canLayAll0]
  | d :: ds, h => by
    have g2 : good d = true ∧ goods ds = true := by simpa [goods] using h
    simp [PyData.canLayAll0, good_can d g2.1, goods_can ds g2.2]
end
mutual
theorem good_plain : ∀ d : PyData, good d = true → plain d = true
  | .none, _ => by simp [plain]
  | .bool _, _ => by simp [plain]
  | .int _, _ => by simp [plain]
  | .str z, h => by simp [plain]
  | .list ds, h => by
    have h2 : ds.length < 1000 ∧ goods ds = true := by simpa [good] using h
    simpa [plain] using goods_plain ds h2.2
  | .tuple ds, h => by
    have h2 : ds.length < 1000 ∧ goods ds = true := by simpa [good] using h
    simpa [plain] using goods_plain ds h2.2
  | .dict _, h => by simp [good] at h
theorem goods_plain : ∀ ds : List PyData, goods ds = true → plains ds = true
  | [], _ => by simp [plains]
  | d :: ds, h => by
    have g2 : good d = true ∧ goods ds = true := by simpa [goods] using h
    simp [plains, good_plain d g2.1, goods_plain ds g2.2]
end
/-- good, and not too deep -/
structure OKd (d : PyData) : Prop where
  good : good d = true
  dep : d.depth ≤ 60
theorem OKd.shaped {d : PyData} (h : OKd d) : SeqAt.shaped d = true := by
  unfold SeqAt.shaped
  rw [good_can d h.good, Bool.true_and]
  exact decide_eq_true (Nat.le_trans h.dep (by decide))
theorem OKd.mem_l {d : PyData} {ds : List PyData} (h : OKd (.list ds)) (m : d ∈ ds) : OKd d := by
  have g := h.good
  have g2 : ds.length < 1000 ∧ goods ds = true := by simpa [Cb.good] using g
  refine ⟨goods_mem g2.2 m, ?_⟩
  have := PyData.depth_le_depthAll ds d m
  have h2 := h.dep
  simp only [PyData.depth] at h2
  omega
theorem OKd.mem_t {d : PyData} {ds : List PyData} (h : OKd (.tuple ds)) (m : d ∈ ds) : OKd d := by
  have g := h.good
  have g2 : ds.length < 1000 ∧ goods ds = true := by simpa [Cb.good] using g
  refine ⟨goods_mem g2.2 m, ?_⟩
  have := PyData.depth_le_depthAll ds d m
  have h2 := h.dep
  simp only [PyData.depth] at h2
  omega
theorem OKd.len_l {ds : List PyData} (h : OKd (.list ds)) : ds.length < 1000 := by
  have g := h.good
  have g2 : ds.length < 1000 ∧ goods ds = true := by simpa [Cb.good] using g
  exact g2.1
theorem OKd.len_t {ds : List PyData} (h : OKd (.tuple ds)) : ds.length < 1000 := by
  have g := h.good
  have g2 : ds.length < 1000 ∧ goods ds = true := by simpa [Cb.good] using g
  exact g2.1
theorem OKd.len_s {z : Str} (h : OKd (.str z)) : z.length ≤ 1000 := by
  have g := h.good
  have g2 : PyData.strOk z = true ∧ z.length ≤ 1000 := by simpa [Cb.good] using g
  exact g2.2
theorem okd_str {z : Str} (h : PyData.strOk z = true) (l : z.length ≤ 1000) : OKd (.str z) := by
  refine ⟨?_, ?_⟩
  · simp [Cb.good, h, l]
  · simp [PyData.depth]
/-! ### == of an item and a text -/
theorem eqv_str (z y : Str) : PyData.eqv (.str z) (.str y) = decide (z = y) := by
  simp only [PyData.eqv]
  by_cases h : z = y <;> simp [h]
def isStr (y : Str) : PyData → Bool
  | .str z => decide (z = y)
  | _ => false
theorem eqv_isStr (y : Str) : ∀ d : PyData, PyData.eqv d (.str y) = isStr y d
  | .none => by simp [PyData.eqv, isStr]
  | .bool _ => by simp [PyData.eqv, isStr]
  | .int _ => by simp [PyData.eqv, isStr]
  | .str z => eqv_str z y
  | .list _ => by simp [PyData.eqv, isStr]
  | .tuple _ => by simp [PyData.eqv, isStr]
  | .dict _ => by simp [PyData.eqv, isStr]
/-! ### tests of what is known -/
theorem ifNot {p : Prop} [Decidable p] {A B : Prop} (hA : ¬ p → A) (hB : p → B) : if (!decide p) = true then A else B := by
  by_cases h : p
  · rw [decide_eq_true h]
    exact iteF (hB h)
  · rw [decide_eq_false h]
    exact iteT (hA h)
theorem ifB {b : Bool} {A B : Prop} (hA : b = true → A) (hB : b = false → B) : if b = true then A else B := by
  cases b with
  | true => exact iteT (hA rfl)
  | false => exact iteF (hB rfl)
theorem ifN {z y : Str} {A B : Prop} (h : ¬ z = y) (b : B) : if decide (V.str z = V.str y) = true then A else B := by
  rw [decide_eq_false (fun e => h (V.str.inj e))]
  exact iteF b
theorem ifY {z y : Str} {A B : Prop} (h : z = y) (a : A) : if decide (V.str z = V.str y) = true then A else B := by
  rw [decide_eq_true (congrArg V.str h)]
  exact iteT a
/-! ### signs of texts -/
def lowC (c : Nat) : Bool := decide (97 ≤ c) && decide (c ≤ 122)
def digC (c : Nat) : Bool := decide (48 ≤ c) && decide (c ≤ 57)
theorem lt1 (a c : Nat) : ([c] < [a]) ↔ c < a := by
  rw [List.cons_lt_cons_iff]
  simp
end Cb
set_option Elab.async false
set_option linter.all false
set_option maxRecDepth 100000
set_option maxHeartbeats 4000000
namespace Cb
open PySem PySem.Spec PyProof.Rows L2
/-! ### what is not looked at -/
def hid (S : List Addr) (H : Hp) : Hp := fun b => if b ∈ S then none else H b
def Keep (S : List Addr) (H H' : Hp) : Prop := ∀ b o, b ∉ S → H b = some o → H' b = some o
theorem hid_at {S : List Addr} {H : Hp} {b : Addr} {o : HO} (n : b ∉ S) (e : H b = some o) : hid S H b = some o := by
  unfold hid
  rw [if_neg n]
  exact e
theorem hid_out {S : List Addr} {H : Hp} {b : Addr} {o : HO} (e : hid S H b = some o) : b ∉ S ∧ H b = some o := by
  unfold hid at e
  split at e
  · cases e
  · exact ⟨by assumption, e⟩
theorem Keep.hid {S : List Addr} {H H' : Hp} (k : Keep S H H') : Same (hid S H) (hid S H') := fun b o e => by
  obtain ⟨n, e2⟩ := hid_out e
  exact hid_at n (k b o n e2)
theorem hid_same {S : List Addr} {H : Hp} : Same (hid S H) H := fun b o e => (hid_out e).2
theorem hid_mono {S S' : List Addr} {H : Hp} (h : ∀ b, b ∈ S → b ∈ S') : Same (hid S' H) (hid S H) := fun b o e => by
  obtain ⟨n, e2⟩ := hid_out e
  exact hid_at (fun z => n (h b z)) e2
theorem Same.keep {S : List Addr} {H H' : Hp} (s : Same H H') : Keep S H H' := fun b o _ e => s b o e
theorem Keep.trans {S : List Addr} {H H' H'' : Hp} (a : Keep S H H') (b : Keep S H' H'') : Keep S H H'' := fun c o n e => b c o n (a c o n e)
theorem Keep.refl {S : List Addr} {H : Hp} : Keep S H H := fun _ _ _ e => e
theorem Keep.mono {S S' : List Addr} {H H' : Hp} (k : Keep S H H') (h : ∀ b, b ∈ S → b ∈ S') : Keep S' H H' := fun b o n e => k b o (fun z => n (h b z)) e
/-- writing what is hidden -/
theorem keep_upd {S : List Addr} {H : Hp} {p : Addr} {o : HO} (h : p ∈ S) : Keep S H (upd H p o) := fun b u n e => by
  rw [upd_ne (show b ≠ p from fun z => n (by rw [z]; exact h))]
  exact e
theorem keep_new {S : List Addr} {H : Hp} {p : Addr} {o : HO} (h : H p = none) : Keep S H (upd H p o) := fun b u _ e => same_new h b u e
/-- what was new when S' was told may be hidden no more -/
theorem Keep.less {S S' : List Addr} {H H' : Hp} (k : Keep S' H H') (h : ∀ b, b ∈ S' → b ∉ S → H b = none) : Keep S H H' := fun b o n e => by
  by_cases z : b ∈ S'
  · rw [h b z n] at e
    cases e
  · exact k b o z e
/-! ### data of bounded size -/
def fit : List Nat → PyData → Bool
  | _, .none => true
  | _, .bool _ => true
  | _, .int i => decide (i = 0) || decide (i = 7)
  | _, .str z => PyData.strOk z && decide (z.length ≤ 40)
  | w :: ws, .list ds => decide (ds.length ≤ w) && ds.all (fit ws)
  | w :: ws, .tuple ds => decide (ds.length ≤ w) && ds.all (fit ws)
  | _, _ => false
def bulk : List Nat → Nat
  | [] => 40
  | w :: ws => 40 + w * (bulk ws + 1)
theorem bulk_40 : ∀ ws, 40 ≤ bulk ws
  | [] => Nat.le_refl _
  | w :: ws => by
    unfold bulk
    omega
theorem weightAll_le {n : Nat} : ∀ {ds : List PyData}, (∀ d ∈ ds, d.weight ≤ n) → PyData.weightAll ds ≤ ds.length * (n + 1)
  | [], _ => by simp [PyData.weightAll]
  | d :: ds, h => by
    have h1 := h d (List.mem_cons_self ..)
    have h2 := weightAll_le (ds := ds) fun e he => h e (List.mem_cons_of_mem _ he)
    simp only [PyData.weightAll, List.length_cons]
    rw [Nat.add_mul]
    omega
theorem canAll {ds : List PyData} (h : ∀ d ∈ ds, d.canLay0 = true) : PyData.canLayAll0 ds = true := by
  induction ds with
  | nil => simp [PyData.canLayAll0]
  | cons d ds ih => simp [PyData.canLayAll0, h d (List.mem_cons_self ..), ih fun e he => h e (List.mem_cons_of_mem _ he)]
theorem depthAll_le {n : Nat} {ds : List PyData} (h : ∀ d ∈ ds, d.depth ≤ n) : PyData.depthAll ds ≤ n := by
  induction ds with
  | nil => simp [PyData.depthAll]
  | cons d ds ih =>
    have h1 := h d (List.mem_cons_self ..)
    have h2 := ih fun e he => h e (List.mem_cons_of_mem _ he)
    simp only [PyData.depthAll]
    omega
/-- what fits is good, can be laid out, compared and shown -/
structure Fits (ws : List Nat) (d : PyData) : Prop where
  good : good d = true
  dep : d.depth ≤ ws.length
  wgt : d.weight ≤ bulk ws
  short : d.intsShort 13 = true
  shw : d.showable = true
  nod : d.hasDict = false
theorem goods_of : ∀ {ds : List PyData}, (∀ d ∈ ds, good d = true) → goods ds = true
  | [], _ => rfl
  | d :: ds, h => by
    simp only [goods, h d (List.mem_cons_self ..), goods_of (ds := ds) fun e he => h e (List.mem_cons_of_mem _ he), Bool.and_self]
theorem showAll_of : ∀ {ds : List PyData}, (∀ d ∈ ds, d.showable = true) → PyData.showableAll ds = true
  | [], _ => by simp [PyData.showableAll]
  | d :: ds, h => by
    simp only [PyData.showableAll, h d (List.mem_cons_self ..), showAll_of (ds := ds) fun e he => h e (List.mem_cons_of_mem _ he), Bool.and_self]
theorem shortAll_of : ∀ {ds : List PyData}, (∀ d ∈ ds, d.intsShort 13 = true) → PyData.intsShortAll 13 ds = true
  | [], _ => by simp [PyData.intsShortAll]
  | d :: ds, h => by
    simp only [PyData.intsShortAll, h d (List.mem_cons_self ..), shortAll_of (ds := ds) fun e he => h e (List.mem_cons_of_mem _ he), Bool.and_self]
theorem nodAll_of : ∀ {ds : List PyData}, (∀ d ∈ ds, d.hasDict = false) → PyData.hasDictAll ds = false
  | [], _ => by simp [PyData.hasDictAll]
  | d :: ds, h => by
    simp only [PyData.hasDictAll, h d (List.mem_cons_self ..), nodAll_of (ds := ds) fun e he => h e (List.mem_cons_of_mem _ he), Bool.or_self]
theorem log_100 {i : Int} (h : i.natAbs < 100) : i.natAbs.log2 < 1920 := Nat.lt_of_lt_of_le (PySem.Flt.log2_lt_of (by decide) (show i.natAbs < 2 ^ 7 by omega)) (by decide)
theorem fits_of : ∀ (ws : List Nat), (∀ w ∈ ws, w < 1000) → ∀ d : PyData, fit ws d = true → Fits ws d
  | ws, _, .none, _ => ⟨rfl, by simp [PyData.depth], by simp [PyData.weight], by simp [PyData.intsShort], by simp [PyData.showable], by simp [PyData.hasDict]⟩
  | ws, _, .bool _, _ => ⟨rfl, by simp [PyData.depth], by simp [PyData.weight], by simp [PyData.intsShort], by simp [PyData.showable], by simp [PyData.hasDict]⟩
  | ws, _, .int i, h => by
    have h2 : i = 0 ∨ i = 7 := by cases ws <;> simpa [fit] using h
    have h40 := bulk_40 ws
    rcases h2 with rfl | rfl
    · exact ⟨rfl, by simp [PyData.depth], by simp [PyData.weight], by decide +kernel, by decide +kernel, by simp [PyData.hasDict]⟩
    · exact ⟨rfl, by simp [PyData.depth], Nat.le_trans (by decide +kernel) h40, by decide +kernel, by decide +kernel, by simp [PyData.hasDict]⟩
  | ws, _, .str z, h => by
    have h2 : PyData.strOk z = true ∧ z.length ≤ 40 := by cases ws <;> simpa [fit] using h
    have h40 := bulk_40 ws
    refine ⟨?_, by simp [PyData.depth], ?_, by simp [PyData.intsShort], by simp [PyData.showable], by simp [PyData.hasDict]⟩
    · simp only [Cb.good, h2.1, Bool.true_and]
      exact decide_eq_true (Nat.le_trans h2.2 (by decide))
    · simp only [PyData.weight]
      exact Nat.le_trans h2.2 h40
  | [], _, .list _, h => by simp [fit] at h
  | [], _, .tuple _, h => by simp [fit] at h
  | [], _, .dict _, h => by simp [fit] at h
  | _ :: _, _, .dict _, h => by simp [fit] at h
  | w :: ws, hw, .list ds, h => by
    have h2 : ds.length ≤ w ∧ ds.all (fit ws) = true := by simpa only [fit, Bool.and_eq_true, decide_eq_true_eq] using h
    have all : ∀ d ∈ ds, Fits ws d := fun d hd => fits_of ws (fun x hx => hw x (List.mem_cons_of_mem _ hx)) d (List.all_eq_true.mp h2.2 d hd)
    have w1 := hw w (List.mem_cons_self ..)
    refine ⟨?_, ?_, ?_, ?_, ?_, ?_⟩
    · simp only [Cb.good, goods_of fun d hd => (all d hd).good, Bool.and_true]
      exact decide_eq_true (by omega)
    · have := depthAll_le fun d hd => (all d hd).dep
      simp only [PyData.depth, List.length_cons]
      omega
    · have h3 := weightAll_le fun d hd => (all d hd).wgt
      have h4 : ds.length * (bulk ws + 1) ≤ w * (bulk ws + 1) := Nat.mul_le_mul_right _ h2.1
      simp only [PyData.weight, bulk]
      omega
    · simp only [PyData.intsShort]
      exact shortAll_of fun d hd => (all d hd).short
    · simp only [PyData.showable]
      exact showAll_of fun d hd => (all d hd).shw
    · simp only [PyData.hasDict]
      exact nodAll_of fun d hd => (all d hd).nod
  | w :: ws, hw, .tuple ds, h => by
    have h2 : ds.length ≤ w ∧ ds.all (fit ws) = true := by simpa only [fit, Bool.and_eq_true, decide_eq_true_eq] using h
    have all : ∀ d ∈ ds, Fits ws d := fun d hd => fits_of ws (fun x hx => hw x (List.mem_cons_of_mem _ hx)) d (List.all_eq_true.mp h2.2 d hd)
    have w1 := hw w (List.mem_cons_self ..)
    refine ⟨?_, ?_, ?_, ?_, ?_, ?_⟩
    · simp only [Cb.good, goods_of fun d hd => (all d hd).good, Bool.and_true]
      exact decide_eq_true (by omega)
    · have := depthAll_le fun d hd => (all d hd).dep
      simp only [PyData.depth, List.length_cons]
      omega
    · have h3 := weightAll_le fun d hd => (all d hd).wgt
      have h4 : ds.length * (bulk ws + 1) ≤ w * (bulk ws + 1) := Nat.mul_le_mul_right _ h2.1
      simp only [PyData.weight, bulk]
      omega
    · simp only [PyData.intsShort]
      exact shortAll_of fun d hd => (all d hd).short
    · simp only [PyData.showable]
      exact showAll_of fun d hd => (all d hd).shw
    · simp only [PyData.hasDict]
      exact nodAll_of fun d hd => (all d hd).nod
theorem Fits.ok {ws : List Nat} {d : PyData} (f : Fits ws d) (l : ws.length ≤ 60) : OKd d := ⟨f.good, Nat.le_trans f.dep l⟩
theorem Fits.len {ws : List Nat} {d : PyData} (f : Fits ws d) (l : ws.length ≤ 60) (b : bulk ws ≤ 2 ^ 20) : d.shown.length ≤ sizeLine := by
  refine Nat.le_trans (PyProof.Rows.shown_le13 ?_ f.short) (by decide)
  simp only [PyData.layable0, good_can d f.good, Bool.true_and, Bool.and_eq_true, decide_eq_true_eq]
  exact ⟨Nat.le_trans f.dep (by omega), Nat.le_trans f.wgt b⟩
/-- its text, asked by call_repr -/
theorem r_fits {K : PySem.W.Frag} {u : Nat} {H : Hp} {Q : VK} {v : V} {d : PyData} {ws : List Nat} (h : DT H v d) (f : Fits ws d) (l : ws.length ≤ 60) (b : bulk ws ≤ 2 ^ 20) (hu : u + 200 < cLine) (q : Q (.str (PyData.shown d)) H) : rRepr K u [v] H Q := by
  unfold rRepr
  exact ⟨v, d, rfl, h.dp (good_plain d f.good), f.shw, f.nod, by have := f.dep; omega, .inr (f.len l b), q⟩
end Cb
set_option Elab.async false
set_option linter.all false
set_option maxRecDepth 100000
set_option maxHeartbeats 4000000
namespace Cb
open PySem PySem.Spec PyProof.Rows L2
def topS (i : Nat) : Stmt := PySem.Challenge.pw_cellbills_k89_whole_pictures_judged.main.body.getD i (.Pass ⟨0, 0, 0, 0⟩)
/-! ### words -/
abbrev s_is_letter : Stmt := topS 3
theorem sc_is_letter : FnScope ["sign"] ["sign"] (defScope s_is_letter) := ⟨rfl, rfl, rfl, by decide +kernel, rfl, by decide +kernel, by decide +kernel⟩
abbrev s_is_digit : Stmt := topS 4
theorem sc_is_digit : FnScope ["sign"] ["sign"] (defScope s_is_digit) := ⟨rfl, rfl, rfl, by decide +kernel, rfl, by decide +kernel, by decide +kernel⟩
abbrev s_is_reserved : Stmt := topS 5
theorem sc_is_reserved : FnScope ["text"] ["text"] (defScope s_is_reserved) := ⟨rfl, rfl, rfl, by decide +kernel, rfl, by decide +kernel, by decide +kernel⟩
abbrev s_is_word : Stmt := topS 6
theorem sc_is_word : FnScope ["value", "sign"] ["value"] (defScope s_is_word) := ⟨rfl, rfl, rfl, by decide +kernel, rfl, by decide +kernel, by decide +kernel⟩
def resL : List Str := ["calls", "catch", "drop", "else", "end", "fail", "flag", "fun", "go", "if", "in", "keep", "kind", "let", "match", "no", "not", "num", "raise", "take", "then", "to", "try", "use", "yes"]
def isRes (z : Str) : Bool := decide (z ∈ resL)
structure TWord (K : PySem.W.Frag) (w : World) (mg : Str → Option Value) : Prop where
  d_is_letter : Has K mg "is_letter" s_is_letter ["sign"]
  d_is_digit : Has K mg "is_digit" s_is_digit ["sign"]
  d_is_reserved : Has K mg "is_reserved" s_is_reserved ["text"]
  d_is_word : Has K mg "is_word" s_is_word ["value"]
  b_isinstance : mg "isinstance" = none
  b_str : mg "str" = none
  b_list : mg "list" = none
  b_len : mg "len" = none
  b_all : mg "all" = none
  g_MOST_SIGNS : ∃ t, mg "MOST_SIGNS" = some (.int 30 t)
  g_RESERVED : ∃ (d : Addr) (es : Array DictEntry) (n : Nat), mg "RESERVED" = some (.ref d) ∧ KDict K w d es n ∧ ∀ z : Str, ∃ r : Option Value, PySem.W.nsIn K d z = some r ∧ r.isSome = isRes z
section
variable {P : Program} {w : World} {K : PySem.W.Frag} {mg : Str → Option Value} {base : Heap}
def sp_is_letter : Sp := fun vs H Q _ => ∃ c : Nat, vs = [.str ⟨#[c]⟩] ∧ Q (.bl (lowC c)) H
theorem c_is_letter (T : TWord K w mg) : Says P w K mg base 1 "is_letter" ["sign"] sp_is_letter := by
  refine says T.d_is_letter sc_is_letter (fun vs H Q E h => ?_) (fun f cdv A outer s H vs Q E hr h => ?_)
  · obtain ⟨_, rfl, _⟩ := h; rfl
  · refine ⟨_, (pss_one (ps_ret (pe_chain op_le_str op_le_str pe_str (pv 0) pe_str))), ?_⟩
    obtain ⟨c, rfl, q⟩ := h
    unfold lowC at q
    refine ⟨_, rfl, _, _, rfl, rfl, _, rfl, ?_⟩
    refine ifNot (fun h => ?_) (fun h => ?_)
    · have h1 : 97 ≤ c := Nat.le_of_not_lt fun z => h ((lt1 97 c).mpr z)
      rw [decide_eq_true h1, Bool.true_and] at q
      refine ⟨_, _, rfl, rfl, ?_⟩
      by_cases h2 : c ≤ 122
      · rw [decide_eq_true h2] at q
        have e : decide (([122] : List Nat) < [c]) = false := decide_eq_false fun z => Nat.not_lt.mpr h2 ((lt1 c 122).mp z)
        show Q (.bl (!decide (([122] : List Nat) < [c]))) H
        rw [e]
        exact q
      · rw [decide_eq_false h2] at q
        have e : decide (([122] : List Nat) < [c]) = true := decide_eq_true ((lt1 c 122).mpr (Nat.lt_of_not_le h2))
        show Q (.bl (!decide (([122] : List Nat) < [c]))) H
        rw [e]
        exact q
    · have h1 : ¬ 97 ≤ c := Nat.not_le.mpr ((lt1 97 c).mp h)
      rw [decide_eq_false h1, Bool.false_and] at q
      exact q
def sp_is_digit : Sp := fun vs H Q _ => ∃ c : Nat, vs = [.str ⟨#[c]⟩] ∧ Q (.bl (digC c)) H
theorem c_is_digit (T : TWord K w mg) : Says P w K mg base 1 "is_digit" ["sign"] sp_is_digit := by
  refine says T.d_is_digit sc_is_digit (fun vs H Q E h => ?_) (fun f cdv A outer s H vs Q E hr h => ?_)
  · obtain ⟨_, rfl, _⟩ := h; rfl
  · refine ⟨_, (pss_one (ps_ret (pe_chain op_le_str op_le_str pe_str (pv 0) pe_str))), ?_⟩
    obtain ⟨c, rfl, q⟩ := h
    unfold digC at q
    refine ⟨_, rfl, _, _, rfl, rfl, _, rfl, ?_⟩
    refine ifNot (fun h => ?_) (fun h => ?_)
    · have h1 : 48 ≤ c := Nat.le_of_not_lt fun z => h ((lt1 48 c).mpr z)
      rw [decide_eq_true h1, Bool.true_and] at q
      refine ⟨_, _, rfl, rfl, ?_⟩
      by_cases h2 : c ≤ 57
      · rw [decide_eq_true h2] at q
        have e : decide (([57] : List Nat) < [c]) = false := decide_eq_false fun z => Nat.not_lt.mpr h2 ((lt1 c 57).mp z)
        show Q (.bl (!decide (([57] : List Nat) < [c]))) H
        rw [e]
        exact q
      · rw [decide_eq_false h2] at q
        have e : decide (([57] : List Nat) < [c]) = true := decide_eq_true ((lt1 c 57).mpr (Nat.lt_of_not_le h2))
        show Q (.bl (!decide (([57] : List Nat) < [c]))) H
        rw [e]
        exact q
    · have h1 : ¬ 48 ≤ c := Nat.not_le.mpr ((lt1 48 c).mp h)
      rw [decide_eq_false h1, Bool.false_and] at q
      exact q
def sp_is_reserved : Sp := fun vs H Q _ => ∃ z : Str, vs = [.str z] ∧ Q (.bl (isRes z)) H
theorem c_is_reserved (T : TWord K w mg) : Says P w K mg base 1 "is_reserved" ["text"] sp_is_reserved := by
  obtain ⟨d, es, n, g, D, all⟩ := T.g_RESERVED
  refine says T.d_is_reserved sc_is_reserved (fun vs H Q E h => ?_) (fun f cdv A outer s H vs Q E hr h => ?_)
  · obtain ⟨_, rfl, _⟩ := h; rfl
  · refine ⟨_, (pss_one (ps_ret (pe_cmpR (op_in_kd D) (pv 0) (pe_glob (v := .ref d) rfl g rfl) (by rfl)))), ?_⟩
    obtain ⟨z, rfl, q⟩ := h
    obtain ⟨r, e, er⟩ := all z
    rw [← er] at q
    exact ⟨_, rfl, _, _, rfl, rfl, e, q⟩
/-- a word, of its signs -/
def headLow (z : Str) : Bool := match z.cps[0]? with
  | some c => lowC c
  | none => false
def isWordS (z : Str) : Bool := (decide (1 ≤ z.length) && decide (z.length ≤ 30)) && (headLow z && !isRes z) && z.cps.toList.all fun c => lowC c || digC c
def isWord : PyData → Bool
  | .str z => isWordS z
  | _ => false
def sp_is_word : Sp := fun vs H Q _ => ∃ (v : V) (d : PyData), vs = [v] ∧ DT H v d ∧ OKd d ∧ ∀ H', Same H H' → Q (.bl (isWord d)) H'
theorem c_is_word (T : TWord K w mg) : Says P w K mg base 2 "is_word" ["value"] sp_is_word := by
  obtain ⟨tm, gm⟩ := T.g_MOST_SIGNS
  refine says T.d_is_word sc_is_word (fun vs H Q E h => ?_) (fun f cdv A outer s H vs Q E hr h => ?_)
  · obtain ⟨_, _, rfl, _⟩ := h; rfl
  · refine ⟨_, (pss_cons (ps_if (PW.pt (pw_or (pt_not (pt_val (pe_callB call_isi (by rfl) T.b_isinstance (by decide +kernel) (pa_cons (pv 0) (pa_cons (pe_bltn (v := .ty "str") (by rfl) T.b_str (by decide +kernel) rfl) pa_nil))))) (pw_or1 (pt_not (pt_chain op_le op_le pe_int (pe_callB call_len_str (by rfl) T.b_len (by decide +kernel) (pa_cons (pv 0) pa_nil)) (pe_glob (v := .int 30) rfl gm ⟨_, rfl⟩))))))
        (pss_one (ps_ret pe_bl))
        pss_nil)
      (pss_cons (ps_if (PW.pt (pw_or (pt_not (pt_val (pe_s (c_is_letter T) hr (pa_cons (pe_item_str (pv 0) pe_int (fun _ _ => rfl)) pa_nil)))) (pw_or1 (pt_val (pe_s (c_is_reserved T) hr (pa_cons (pv 0) pa_nil))))))
        (pss_one (ps_ret pe_bl))
        pss_nil)
      (pss_one (ps_ret (pe_callB (cr_all rfl) (by rfl) T.b_all (by decide +kernel) (pa_cons (pe_lc (own := [("sign", 1)]) (g := gName 1) (tt := tYes) rfl sc_is_word.nd (pi_str (pv 0)) (blkOk_by (N := ["value", "sign"]) (sc := defScope s_is_word) (own := [("sign", 1)]) (by decide +kernel)) (fun _ _ _ _ _ => pg_name (i := 1) sc_is_word.nd rfl (Or.inl rfl)) (fun _ _ _ _ _ => pts_nil) (fun _ _ _ _ _ => (pe_or (pe_s (c_is_letter T) hr (pa_cons (pv 1) pa_nil)) (pe_one (pe_s (c_is_digit T) hr (pa_cons (pv 1) pa_nil)))))) pa_nil)))))), ?_⟩
    obtain ⟨v, d, rfl, hd, ok, q⟩ := h
    refine ⟨_, rfl, _, _, _, _, _, rfl, .ty _, hd.ty, kit_ty (kit_s d), _, rfl, ?_⟩
    cases d with
    | str z =>
      cases hd
      have lz := ok.len_s
      have q1 := q
      show if (!true) = true then _ else _
      refine iteF ?_
      refine ⟨_, rfl, _, rfl, Nat.le_trans lz (by decide), ?_⟩
      refine ⟨_, _, rfl, rfl, _, rfl, ?_⟩
      have back : (decide (1 ≤ z.length) && decide (z.length ≤ 30)) = false → ∀ H', Same H H' → Q (.bl false) H' := fun e H' s' => by
        have q2 : Q (.bl (isWordS z)) H' := q H' s'
        unfold isWordS at q2
        rw [e] at q2
        simpa using q2
      refine ifB (fun h1 => ?_) (fun h1 => ?_)
      · have l1 : 1 ≤ z.length := by
          have := of_decide_eq_true h1
          omega
        refine ⟨_, _, rfl, rfl, _, rfl, ?_⟩
        refine ifB (fun h2 => ?_) (fun h2 => ?_)
        · have n2 : ¬ z.length ≤ 30 := fun y => by
            have : decide (((z.length : Nat) : Int) ≤ 30) = true := decide_eq_true (by omega)
            rw [this] at h2
            cases h2
          exact back (by rw [decide_eq_false n2, Bool.and_false]) _ (Same.refl _)
        · have l2 : z.length ≤ 30 := by
            cases z2 : decide (((z.length : Nat) : Int) ≤ 30) with
            | false => 
              rw [z2] at h2
              cases h2
            | true =>
              have := of_decide_eq_true z2
              omega
          have hc : ∃ c, z.cps[0]? = some c := ⟨z.cps[0]'l1, Array.getElem?_eq_getElem l1⟩
          obtain ⟨c, hc⟩ := hc
          refine ⟨_, rfl, _, _, c, rfl, rfl, by decide, by decide, by omega, hc, ?_⟩
          refine ⟨c, rfl, _, rfl, ?_⟩
          have hl : headLow z = lowC c := by
            unfold headLow
            rw [hc]
          have q3 : ∀ H', Same H H' → Q (.bl ((lowC c && !isRes z) && z.cps.toList.all fun c => lowC c || digC c)) H' := fun H' s' => by
            have q2 : Q (.bl (isWordS z)) H' := q H' s'
            unfold isWordS at q2
            rw [decide_eq_true l1, decide_eq_true l2, hl] at q2
            simpa using q2
          refine ifB (fun h3 => ?_) (fun h3 => ?_)
          · have e : lowC c = false := by simpa using h3
            have q4 := q3 H (Same.refl _)
            rw [e] at q4
            exact q4
          · have e : lowC c = true := by simpa using h3
            refine ⟨_, rfl, _, rfl, _, rfl, ?_⟩
            refine ifB (fun h4 => ?_) (fun h4 => ?_)
            · have q4 := q3 H (Same.refl _)
              rw [e, h4] at q4
              exact q4
            · refine ⟨_, rfl, _, rfl, fun D hD => lc_mapW (walk_str (z := z)) (ys := (z.cps.toList.map fun c => V.bl (lowC c || digC c))) (fun _ _ => trivial) (fun j H x H' y => y.1) hD (by simp) (by show z.cps.size < 1000; have : z.cps.size = z.length := rfl; omega) ?_ ?_⟩
              · rintro j x y H' Q' s1 ⟨_, c2, hc2, rfl⟩ hy q'
                have hy2 : y = .bl (lowC c2 || digC c2) := by
                  rw [List.getElem?_map, Array.getElem?_toList, hc2] at hy
                  exact (Option.some.inj hy).symm
                subst hy2
                refine ⟨_, rfl, c2, rfl, _, rfl, ?_⟩
                cases e2 : lowC c2 with
                | true =>
                  rw [e2] at q'
                  exact iteT (q' _ (Same.refl _))
                | false =>
                  rw [e2] at q'
                  exact iteF ⟨_, rfl, c2, rfl, q' _ (Same.refl _)⟩
              · intro H' s1 hd2
                refine ⟨_, (z.cps.toList.map fun c => lowC c || digC c), rfl, ?_, ?_⟩
                · rw [List.map_map]
                  exact SqL.of hd2
                · have q4 := q3 H' s1
                  rw [e, h4] at q4
                  rw [List.all_map]
                  simpa using q4
      · have n1 : ¬ 1 ≤ z.length := fun y => by
          have : decide ((1 : Int) ≤ ((z.length : Nat) : Int)) = true := decide_eq_true (by omega)
          rw [this] at h1
          cases h1
        refine ⟨_, rfl, ?_⟩
        exact back (by rw [decide_eq_false n1, Bool.false_and]) _ (Same.refl _)
    | none => exact iteT (q _ (Same.refl _))
    | bool _ => exact iteT (q _ (Same.refl _))
    | int _ => exact iteT (q _ (Same.refl _))
    | list _ => exact iteT (q _ (Same.refl _))
    | tuple _ => exact iteT (q _ (Same.refl _))
    | dict _ => exact iteT (q _ (Same.refl _))
end
end Cb
set_option Elab.async false
set_option linter.all false
set_option maxRecDepth 100000
set_option maxHeartbeats 4000000
namespace Cb
open PySem PySem.Spec PyProof.Rows L2
abbrev s_l_hash : Stmt := topS 22
theorem sc_l_hash : FnScope ["_law_seed", "_law_index", "_law_mixed"] ["_law_seed", "_law_index"] (defScope s_l_hash) := ⟨rfl, rfl, rfl, by decide +kernel, rfl, by decide +kernel, by decide +kernel⟩
abbrev s_l_random : Stmt := topS 23
theorem sc_l_random : FnScope ["_law_generator_here", "_law_bound", "_law_drawn_here", "_law_turn"] ["_law_generator_here", "_law_bound"] (defScope s_l_random) := ⟨rfl, rfl, rfl, by decide +kernel, rfl, by decide +kernel, by decide +kernel⟩
abbrev s_l_cell : Stmt := topS 24
theorem sc_l_cell : FnScope ["_law_script", "_law_index"] ["_law_script", "_law_index"] (defScope s_l_cell) := ⟨rfl, rfl, rfl, by decide +kernel, rfl, by decide +kernel, by decide +kernel⟩
abbrev s_l_generator : Stmt := topS 25
theorem sc_l_generator : FnScope ["_law_script", "_law_index", "_law_seed"] ["_law_script", "_law_index"] (defScope s_l_generator) := ⟨rfl, rfl, rfl, by decide +kernel, rfl, by decide +kernel, by decide +kernel⟩
structure TGen (K : PySem.W.Frag) (mg : Str → Option Value) : Prop where
  d_l_hash : Has K mg "_law_hash" s_l_hash ["_law_seed", "_law_index"]
  d_l_random : Has K mg "_law_random" s_l_random ["_law_generator_here", "_law_bound"]
  d_l_cell : Has K mg "_law_cell" s_l_cell ["_law_script", "_law_index"]
  d_l_generator : Has K mg "_law_generator" s_l_generator ["_law_script", "_law_index"]
  b_int : mg "int" = none
  b_range : mg "range" = none
  b_len : mg "len" = none
  b_sum : mg "sum" = none
  b_max : mg "max" = none
/-- a generator: three numbers -/
def gen (a s t : Int) : HO := .lst [.int a, .int s, .int t]
local macro_rules | `(tactic| walk_at "rd1") => `(tactic| first
  | with_reducible_and_instances refine ⟨_, rfl, ?_⟩
  | refine ⟨_, rfl, ?_⟩
  | refine ⟨_, _, rfl, rfl, ?_⟩
  | refine .inl ⟨_, rfl, ?_⟩
  | (refine ⟨by first | decide | omega | exact .inl (by decide) | exact .inr (by decide) | exact .inl (by omega) | exact .inr (by omega) | exact ⟨by decide, by decide⟩, ?_⟩))
local macro_rules | `(tactic| walk_at "rd") => `(tactic| repeat walk_at "rd1")
section
variable {P : Program} {w : World} {K : PySem.W.Frag} {mg : Str → Option Value} {base : Heap}
def sp_l_hash : Sp := fun vs H Q _ => ∃ s i : Int, vs = [.int s, .int i] ∧ 0 ≤ i ∧ i < 2 ^ 63 ∧ ∀ r : Int, Q (.int r) H
theorem mod_in {m b : Int} (h : 0 < b) : 0 ≤ m % b ∧ m % b < b := ⟨Int.emod_nonneg _ (by omega), Int.emod_lt_of_pos _ h⟩
theorem cut_first (ns : List Int) : cutV (ns.map V.int) none (some 1) = (ns.take 1).map V.int := by
  unfold cutV
  rw [show HT.sIx (ns.map V.int).length 0 none = 0 from HT.sIx_none _ _, show HT.sIx (ns.map V.int).length (ns.map V.int).length (some 1) = min 1 (ns.map V.int).length from HT.sIx_nat _ _ 1]
  cases ns with
  | nil => rfl
  | cons x r => simp
theorem c_l_hash (T : TGen K mg) : Says P w K mg base 1 "_law_hash" ["_law_seed", "_law_index"] sp_l_hash := by
  refine says T.d_l_hash sc_l_hash (fun vs H Q E h => ?_) (fun f cdv A outer s H vs Q E hr h => ?_)
  · obtain ⟨_, _, rfl, _⟩ := h; rfl
  · refine ⟨_, (pss_cons (ps_set (i := 2) sc_l_hash.nd rfl (.inl rfl) (pe_op op_mod (pe_callTy call_int1 (by rfl) T.b_int (by decide +kernel) (pa_cons (pe_op op_add (pe_op op_add (pe_op op_add (pe_op op_mul (pv 0) pe_int) (pe_op op_mul (pe_op op_mul pe_int (pv 1)) (pv 1))) (pe_op op_mul pe_int (pv 1))) pe_int) pa_nil)) pe_int))
      (pss_cons (ps_set (i := 2) sc_l_hash.nd rfl (.inl rfl) (pe_op op_mod (pe_callTy call_int1 (by rfl) T.b_int (by decide +kernel) (pa_cons (pe_op op_add (pe_op op_add (pe_op op_mul (pv 2) (pv 2)) (pe_op op_mul pe_int (pv 1))) pe_int) pa_nil)) pe_int))
      (pss_one (ps_ret (pe_op op_mod (pe_callTy call_int1 (by rfl) T.b_int (by decide +kernel) (pa_cons (pe_op op_mul (pv 2) pe_int) pa_nil)) pe_int))))), ?_⟩
    obtain ⟨s, i, rfl, h0, h1, q⟩ := h
    walk_at "rd"
    have hm := @mod_in (s * 1140671 + 27644437 * i * i + 131 * i + 19) 2147483629 (by decide)
    generalize (s * 1140671 + 27644437 * i * i + 131 * i + 19) % 2147483629 = m at hm ⊢
    walk_at "rd"
    exact q _

/-- a draw: some number below the bound; the generator goes on -/
@[irreducible] def sp_l_random : Sp := fun vs H Q _ => ∃ (p : Addr) (a s t b : Int), vs = [.ref p, .int b] ∧ H p = some (gen a s t) ∧ 0 < b ∧ b.natAbs < 2 ^ 210 ∧ 0 ≤ t ∧ t < 2 ^ 62 ∧
  ∀ r a' t' : Int, 0 ≤ r → r < b → t ≤ t' → t' ≤ t + 8 → Q (.int r) (upd H p (gen a' s t'))
theorem c_l_random (T : TGen K mg) : Says P w K mg base 2 "_law_random" ["_law_generator_here", "_law_bound"] sp_l_random := by
  refine says T.d_l_random sc_l_random (fun vs H Q E h => ?_) (fun f cdv A outer s H vs Q E hr h => ?_) <;> unfold sp_l_random at h
  · obtain ⟨_, _, _, _, _, rfl, _⟩ := h; rfl
  · refine ⟨_, (pss_cons (ps_if (pt_cmpR op_gt (pe_ix ix_list (pv 0) pe_int (fun _ _ => rfl)) pe_int (nomark _))
        (pss_cons (ps_set (i := 2) sc_l_random.nd rfl (.inl rfl) (pe_op op_mod (pe_callTy call_int1 (by rfl) T.b_int (by decide +kernel) (pa_cons (pe_ix ix_list (pv 0) pe_int (fun _ _ => rfl)) pa_nil)) (pv 1)))
        (pss_cons (ps_asg (pe_op op_fdivA (pe_ix ix_list (pv 0) pe_int (fun _ _ => rfl)) (pv 1)) (pg_sub (pv 0) pe_int set_list))
        (pss_one (ps_ret (pv 2)))))
        pss_nil)
      (pss_cons (ps_set (i := 2) sc_l_random.nd rfl (.inl rfl) pe_int)
      (pss_cons (ps_for PassesOwn.never rfl (pi_range1 (by rfl) T.b_range (pa_cons (pe_op op_add pe_int (pe_op op_fdiv (pe_bits (pv 1)) pe_int)) pa_nil)) (pg_name (i := 3) sc_l_random.nd rfl (.inl rfl))
        (pss_cons (ps_asg (pe_op op_add (pe_ix ix_list (pv 0) pe_int (fun _ _ => rfl)) pe_int) (pg_sub (pv 0) pe_int set_list))
        (pss_one (ps_set (i := 2) sc_l_random.nd rfl (.inl rfl) (pe_op op_add (pe_op op_mul (pv 2) pe_int) (pe_s (c_l_hash T) hr (pa_cons (pe_ix ix_list (pv 0) pe_int (fun _ _ => rfl)) (pa_cons (pe_ix ix_list (pv 0) pe_int (fun _ _ => rfl)) pa_nil))))))))
      (pss_one (ps_ret (pe_op op_mod (pe_callTy call_int1 (by rfl) T.b_int (by decide +kernel) (pa_cons (pv 2) pa_nil)) (pv 1))))))), ?_⟩
    obtain ⟨p, a, s, t, b, rfl, hp, b0, b1, t0, t1, q⟩ := h
    have bl : Builtin.Int.intBits b ≤ 210 := PyProof.Rows.intBits_le b1
    refine ⟨_, rfl, _, _, _, _, rfl, rfl, SqL.of hp, rfl, _, _, rfl, rfl, _, rfl, ite2 (fun _ => ?_) (fun _ => ?_)⟩
    · refine ⟨_, rfl, _, _, _, _, rfl, rfl, SqL.of hp, rfl, .inl ⟨_, rfl, ?_⟩⟩
      refine ⟨_, rfl, _, _, rfl, rfl, b0, ?_⟩
      refine ⟨_, rfl, _, _, _, _, rfl, rfl, SqL.of hp, rfl, _, rfl, _, _, rfl, rfl, ⟨by omega, Nat.lt_of_lt_of_le (PySem.Flt.log2_lt_of (by decide) b1) (by decide)⟩, ?_⟩
      refine ⟨_, rfl, _, _, _, _, rfl, rfl, hp, rfl, ?_⟩
      refine ⟨_, rfl, ?_⟩
      exact q _ _ t (mod_in b0).1 (mod_in b0).2 (by omega) (by omega)
    · refine ⟨_, rfl, _, rfl, _, _, rfl, rfl, ⟨by decide, by decide⟩, _, _, rfl, rfl, _, rfl, ?_, ?_, ?_⟩
      · show -(2 ^ 62) ≤ 1 + ((Builtin.Int.intBits b : Nat) : Int) / 30
        omega
      · show 1 + ((Builtin.Int.intBits b : Nat) : Int) / 30 < 2 ^ 62
        omega
      · refine for_range (lo := 0) (fun i σ H' => ∃ (d t' : Int) (v : Option V), σ = [some (.ref p), some (.int b), some (.int d), v] ∧ t' = t + i ∧ H' = upd H p (gen a s t')) ⟨0, t, none, rfl, by omega, (upd_self hp).symm⟩ ?_ ?_
        · rintro i σ H' hi ⟨d, t', v, rfl, rfl, rfl⟩
          have hi8 : i < (1 + ((Builtin.Int.intBits b : Nat) : Int) / 30).toNat := hi
          refine ⟨_, rfl, _, _, _, _, rfl, rfl, SqL.of upd_same, rfl, _, _, rfl, rfl, ?_⟩
          refine ⟨_, rfl, _, _, _, _, rfl, rfl, upd_same, rfl, ?_⟩
          rw [upd_upd]
          refine ⟨_, rfl, _, _, rfl, rfl, .inr (by decide), ?_⟩
          refine ⟨_, rfl, _, _, _, _, rfl, rfl, SqL.of upd_same, rfl, _, rfl, _, _, _, _, rfl, rfl, SqL.of upd_same, rfl, ?_⟩
          refine ⟨_, _, rfl, by omega, by omega, fun r => ?_⟩
          refine ⟨_, _, rfl, rfl, ?_⟩
          exact ⟨_, t + i + 1, _, rfl, by omega, rfl⟩
        · rintro σ H' ⟨d, t', v, rfl, rfl, rfl⟩
          refine ⟨_, rfl, .inl ⟨_, rfl, ?_⟩⟩
          refine ⟨_, rfl, _, _, rfl, rfl, b0, ?_⟩
          have hn : ((1 + ((Builtin.Int.intBits b : Nat) : Int) / 30).toNat : Int) ≤ 8 := by omega
          exact q _ a _ (mod_in b0).1 (mod_in b0).2 (Int.le_add_of_nonneg_right (Int.natCast_nonneg _)) (Int.add_le_add_left hn t)
def sp_l_cell (K : PySem.W.Frag) : Sp := fun vs H Q _ => ∃ (p : Addr) (ns : List Int) (i : Int), vs = [.ref p, .int i] ∧ SqL K H p (ns.map V.int) ∧ 0 ≤ i ∧ ∀ (r : Int) (H' : Hp), Same H H' → Q (.int r) H'
theorem c_l_cell (T : TGen K mg) : Says P w K mg base 1 "_law_cell" ["_law_script", "_law_index"] (sp_l_cell K) := by
  refine says T.d_l_cell sc_l_cell (fun vs H Q E h => ?_) (fun f cdv A outer s H vs Q E hr h => ?_)
  · obtain ⟨_, _, _, rfl, _⟩ := h; rfl
  · refine ⟨_, (pss_cons (ps_if (pt_cmpR op_lt (pv 1) (pe_callB call_len_seq (by rfl) T.b_len (by decide +kernel) (pa_cons (pv 0) pa_nil)) (nomark _))
        (pss_one (ps_ret (pe_ix ix_list (pv 0) (pv 1) (fun _ _ => rfl))))
        pss_nil)
      (pss_one (ps_ret (pe_op op_mod (pe_callB (cr_sum rfl) (by rfl) T.b_sum (by decide +kernel) (pa_cons (pe_slice sl_list (pv 0) po_none (po_some pe_int)) pa_nil)) pe_int)))), ?_⟩
    obtain ⟨p, ns, i, rfl, hp, i0, q⟩ := h
    refine ⟨_, rfl, _, rfl, _, _, rfl, .inl hp, _, _, rfl, rfl, _, rfl, ite2 (fun lt => ?_) (fun _ => ?_)⟩
    · have lt2 : i < ((ns.map V.int).length : Int) := of_decide_eq_true lt
      rw [List.length_map] at lt2
      have e : atI (ns.map V.int) i = some (.int (ns[i.toNat]'(by omega))) := by
        have z := atI_nat (xs := ns.map V.int) (j := i.toNat) (v := .int (ns[i.toNat]'(by omega))) (by rw [List.getElem?_map, List.getElem?_eq_getElem (by omega)]; rfl)
        rwa [Int.toNat_of_nonneg i0] at z
      refine ⟨_, rfl, _, rfl, _, _, _, _, rfl, rfl, hp, e, ?_⟩
      exact q _ _ (Same.refl _)
    · refine ⟨_, rfl, 1, rfl, _, _, rfl, hp, fun l hl => ?_⟩
      refine ⟨_, (ns.take 1), rfl, ?_, ?_⟩
      · rw [← cut_first]
        exact SqL.of upd_same
      · refine ⟨_, _, rfl, rfl, (show (0 : Int) < 1000003 by decide), ?_⟩
        exact q _ _ (same_new hl)
/-- a new generator -/
def sp_l_generator (K : PySem.W.Frag) : Sp := fun vs H Q _ => ∃ (p : Addr) (ns : List Int) (i : Int), vs = [.ref p, .int i] ∧ SqL K H p (ns.map V.int) ∧ 0 ≤ i ∧ i < 1000 ∧
  ∀ (g : Addr) (a s : Int) (H' : Hp), H g = none → Same H H' → H' g = some (gen a s (1000 * i)) → Q (.ref g) H'
theorem c_l_generator (T : TGen K mg) : Says P w K mg base 2 "_law_generator" ["_law_script", "_law_index"] (sp_l_generator K) := by
  refine says T.d_l_generator sc_l_generator (fun vs H Q E h => ?_) (fun f cdv A outer s H vs Q E hr h => ?_)
  · obtain ⟨_, _, _, rfl, _⟩ := h; rfl
  · refine ⟨_, (pss_cons (ps_set (i := 2) sc_l_generator.nd rfl (.inl rfl) (pe_s (c_l_cell T) hr (pa_cons (pv 0) (pa_cons (pv 1) pa_nil))))
      (pss_one (ps_ret (pe_lst (pa_cons (pe_op op_mod (pe_callTy call_int1 (by rfl) T.b_int (by decide +kernel) (pa_cons (pe_callB (call_max2 rfl) (by rfl) T.b_max (by decide +kernel) (pa_cons (pe_op op_sub (pv 2) (pe_op op_powA pe_int pe_int)) (pa_cons pe_int pa_nil))) pa_nil)) (pe_op op_powA (pe_op op_powA pe_int pe_int) pe_int)) (pa_cons (pe_op op_mod (pe_callTy call_int1 (by rfl) T.b_int (by decide +kernel) (pa_cons (pv 2) pa_nil)) pe_int) (pa_cons (pe_op op_mul pe_int (pv 1)) pa_nil))))))), ?_⟩
    obtain ⟨p, ns, i, rfl, hp, i0, i1, q⟩ := h
    refine ⟨_, rfl, _, rfl, _, _, _, rfl, hp, i0, fun r H1 s1 => ?_⟩
    refine ⟨_, rfl, _, _, rfl, rfl, ⟨by decide, by decide +kernel⟩, _, _, rfl, rfl, ?_⟩
    refine ⟨_, _, rfl, .inl ⟨_, rfl, ?_⟩⟩
    refine ⟨_, _, rfl, rfl, ⟨by decide, by decide +kernel⟩, _, _, rfl, rfl, ⟨by decide, by decide +kernel⟩, ?_⟩
    refine ⟨_, _, rfl, rfl, (show (0 : Int) < ((10 ^ Int.toNat 60) ^ Int.toNat 10) by decide +kernel), ?_⟩
    refine ⟨_, rfl, .inl ⟨_, rfl, _, _, rfl, rfl, (show (0 : Int) < 2147483647 by decide), ?_⟩⟩
    refine ⟨_, rfl, _, _, rfl, rfl, .inl (by decide), ?_⟩
    refine ⟨(show 3 ≤ sizeLine by decide), fun g hg => ?_⟩
    exact q g _ _ _ (s1.free hg) (s1.trans (same_new hg)) upd_same
end
end Cb
set_option Elab.async false
set_option linter.all false
set_option maxRecDepth 100000
set_option maxHeartbeats 4000000
namespace Cb
open PySem PySem.Spec PyProof.Rows L2
/-! ### xs != [] of whatever lists -/
def rNeNil : R2 := fun x y H Q => ∃ (a b : Addr) (xs : List V), x = .ref a ∧ y = .ref b ∧ H a = some (.lst xs) ∧ H b = some (.lst []) ∧ Q (.bl (!xs.isEmpty)) H
section
variable {X : Cx}
theorem op_neNil (hu : X.A.units + 64 < cLine) : OpR X (compareOp .NotEq) rNeNil := by
  intro pins s σ H x y v u Q I rx ry h
  obtain ⟨a, b, xs, rfl, rfl, ha, hb, q⟩ := h
  cases rx
  cases ry
  obtain ⟨z1, its, n, rv, hl, e⟩ := I.lstM ha
  obtain ⟨z2, its2, n2, rv2, hl2, e2⟩ := I.lstM hb
  obtain rfl : its2 = [] := by
    cases rv2
    rfl
  have r1 : s.heap.IsList a its.toArray := ⟨_, e, rfl, _, rfl⟩
  have r2 : s.heap.IsList b ([] : List Value).toArray := ⟨_, e2, rfl, _, rfl⟩
  cases rv with
  | nil =>
    have := SeqAt.RcNeAt.lists (A := X.A) (e := fun _ => true) r1 r2 rfl (by omega) (fun j h1 h2 => absurd h1 (by simp))
    exact this X.prog X.w _ _ ⟨.bl false, H, I, rfl, q⟩
  | cons h t =>
    have := SeqAt.RcNeAt.lists_lengths (A := X.A) r1 r2 (by simp) (by omega)
    exact this X.prog X.w _ _ ⟨.bl true, H, I, rfl, q⟩
end
/-! ### a text of data that hold empty dicts -/
section
variable {X : Cx} {pins : List (Addr × Obj)} {σ : L2.St} {H : Hp} {s : Shared}
theorem dict_at (I : Inv X pins σ H s) {a : Addr} (e : H a = some (.dK [])) : ∃ (o : Obj) (es : Array DictEntry) (n : Nat), s.heap.get? a = some o ∧ o.cls = .type "dict" ∧ o.data = .dict es n ∧ es.toList = [] ∧ (a == sysModules) = false := by
  obtain ⟨_, low, vs, kv, o, es, ep, ho, ex, hd, _, pr, _⟩ := dk_of I.hok e
  obtain rfl : vs = [] := by
    cases vs with
    | nil => rfl
    | cons x r =>
      have := Paired.length kv
      simp at this
  exact ⟨o, es, ep, ho, ex.1, hd, List.length_eq_zero_iff.mp pr.length, low⟩
mutual
theorem told_dt (I : Inv X pins σ H s) : ∀ (d : PyData) {v : V} {u : Value}, DT H v d → RelV v u → d.showable = true → d.shown.length ≤ sizeLine →
    ∃ as, Reads s.heap u d as ∧ ∃ bs, ReadAtMost s.heap d.depth bs ∧ ReprK X.prog X.w bs s.heap d.depth u d.shown
  | .none, _, _, h, r, _, _ => by
    cases h
    cases r
    exact ⟨_, .none, [], (fun _ m => nomatch m), by simp only [PyData.shown]; exact .of_is ReprIs.none _ _ _⟩
  | .bool b, _, _, h, r, _, _ => by
    cases h
    cases r
    exact ⟨_, .bool b, [], (fun _ m => nomatch m), by simp only [PyData.shown]; exact .of_is (ReprIs.bool b) _ _ _⟩
  | .int i, _, _, h, r, hs, _ => by
    cases h
    obtain ⟨t, rfl⟩ := r
    exact ⟨_, .int i t, [], (fun _ m => nomatch m), by simp only [PyData.shown]; exact .of_is (ReprIs.int t (by simpa [PyData.showable] using hs)) _ _ _⟩
  | .str x, _, _, h, r, _, hz => by
    cases h
    obtain ⟨t, rfl⟩ := r
    exact ⟨_, .str x t, [], (fun _ m => nomatch m), by simp only [PyData.shown]; exact .of_is (ReprIs.str x t (by simpa only [PyData.shown] using hz)) _ _ _⟩
  | .list ds, _, _, h, r, hs, hz => by
    cases h with
    | @lst a xs _ e da =>
      cases r
      obtain ⟨its, rv, ⟨o, n, ho, hc, _, hd⟩, _⟩ := I.list (SqL.of e)
      have hz2 : (listText (PyData.shownAll ds)).length ≤ sizeLine := by simpa only [PyData.shown] using hz
      obtain ⟨as, ra, bs, hb, hk⟩ := told_dts I ds da rv (by simpa [PyData.showable] using hs) fun t ht => Nat.le_trans (listText_mem_le ht) hz2
      have rr : Reads s.heap (.ref a) (.list ds) _ := .list ho hc hd ra
      have out : a ∉ bs := not_mem_of_deeper rr (by simp only [PyData.depth]; omega) hb
      refine ⟨_, rr, a :: bs, ReadAtMost.cons rr (by simp only [PyData.depth]; omega) hb, ?_⟩
      simp only [PyData.depth, PyData.shown]
      cases its with
      | nil =>
        cases ra
        simp only [PyData.shownAll, listText_nil]
        exact ReprK.listEmpty ho hc hd
      | cons x l => exact ReprK.list ho hc hd out (by simpa using hk.length_eq) (fun i y e => hk.item i y (by simpa using e))
  | .tuple ds, _, _, h, r, hs, hz => by
    cases h with
    | @tup a xs _ e da =>
      cases r
      obtain ⟨its, rv, ⟨o, ho, hc, n, hd⟩, _⟩ := I.tuple (SqT.of e)
      have hz2 : (tupleText (PyData.shownAll ds)).length ≤ sizeLine := by simpa only [PyData.shown] using hz
      obtain ⟨as, ra, bs, hb, hk⟩ := told_dts I ds da rv (by simpa [PyData.showable] using hs) fun t ht => Nat.le_trans (tupleText_mem_le ht) hz2
      have rr : Reads s.heap (.ref a) (.tuple ds) _ := .tuple ho hc hd ra
      have out : a ∉ bs := not_mem_of_deeper rr (by simp only [PyData.depth]; omega) hb
      refine ⟨_, rr, a :: bs, ReadAtMost.cons rr (by simp only [PyData.depth]; omega) hb, ?_⟩
      simp only [PyData.depth, PyData.shown]
      exact ReprK.tuple ho hc hd out hk
  | .dict _, _, _, h, r, _, _ => by
    cases h with
    | @dct a e =>
      cases r
      obtain ⟨o, es, n, ho, hc, hd, ee, low⟩ := dict_at I e
      have rr : Reads s.heap (.ref a) (.dict []) (a :: [] ++ []) := .dict ho hc hd (by rw [ee]; exact .nil) (by rw [ee]; exact .nil)
      refine ⟨_, rr, [a], ReadAtMost.cons rr (Nat.le_refl _) (fun _ m => nomatch m), ?_⟩
      have := ReprK.dict (prog := X.prog) (w := X.w) (as := []) (d := PyData.depthKv []) ho hc hd low (by simp) (by rw [ee]; exact .nil)
      simp only [PyData.depth, PyData.shown, PyData.shownKv_eq]
      exact this
theorem told_dts (I : Inv X pins σ H s) : ∀ (ds : List PyData) {vs : List V} {us : List Value}, DTs H vs ds → Vals vs us → PyData.showableAll ds = true → (∀ t ∈ PyData.shownAll ds, t.length ≤ sizeLine) →
    ∃ as, ReadsAll s.heap us ds as ∧ ∃ bs, ReadAtMost s.heap (PyData.depthAll ds) bs ∧ ReprAllK X.prog X.w bs s.heap (PyData.depthAll ds) us (PyData.shownAll ds)
  | [], _, _, h, r, _, _ => by
    cases h
    cases r
    exact ⟨_, .nil, [], (fun _ m => nomatch m), by simp only [PyData.shownAll]; exact .nil⟩
  | d :: ds, _, _, h, r, hs, hz => by
    cases h with
    | cons h1 h2 =>
      cases r with
      | cons r1 r2 =>
        have hs2 : d.showable = true ∧ PyData.showableAll ds = true := by simpa [PyData.showableAll] using hs
        obtain ⟨a1, q1, b1, hb1, k1⟩ := told_dt I d h1 r1 hs2.1 (hz _ (by simp only [PyData.shownAll]; exact List.mem_cons_self ..))
        obtain ⟨a2, q2, b2, hb2, k2⟩ := told_dts I ds h2 r2 hs2.2 fun t ht => hz t (by simp only [PyData.shownAll]; exact List.mem_cons_of_mem _ ht)
        refine ⟨_, .cons q1 q2, b1 ++ b2, fun b hm => ?_, ?_⟩
        · simp only [PyData.depthAll]
          rcases List.mem_append.mp hm with hm | hm
          · obtain ⟨x, y, z, t⟩ := hb1 b hm
            exact ⟨x, y, z, Nat.le_trans t (Nat.le_max_left ..)⟩
          · obtain ⟨x, y, z, t⟩ := hb2 b hm
            exact ⟨x, y, z, Nat.le_trans t (Nat.le_max_right ..)⟩
        · simp only [PyData.depthAll, PyData.shownAll]
          exact .cons ((k1.more fun b hb => List.mem_append_left _ hb).level_le (Nat.le_max_left ..)) (k2.more_le (fun b hb => List.mem_append_right _ hb) (Nat.le_max_right ..))
end
end
/-- repr of any data that can be shown -/
@[irreducible] def rRepD (u : Nat) : List V → Hp → VK → Prop := fun vs H Q => ∃ (v : V) (d : PyData), vs = [v] ∧ DT H v d ∧ d.showable = true ∧ u + (d.depth + 1) < cLine ∧ d.shown.length ≤ sizeLine ∧ Q (.str d.shown) H
theorem call_repD {X : Cx} (hg : X.A.guards = some []) : CallR X (.builtin "repr") (rRepD X.A.units) := by
  intro pins s σ H vs us Q I rel h
  unfold rRepD at h
  obtain ⟨v, d, rfl, hd, hs, hu, hz, q⟩ := h
  obtain ⟨u, rfl, ru⟩ := vals1 rel
  have fin : ∀ (a : Addr) (T idr : String), ShowsBy X.prog X.w s.heap a d T idr → wpAny (model X.prog X.w) X.A (call (.builtin "repr") [.ref a]) (EP X pins σ Q) X.xe s := fun a T idr S =>
    call_repr_slot (by omega) (S.typeIs s fun _ _ e => e) S.slotRepr (S.call X.A.in1 X.xe s _ hg (by show X.A.units + 1 + d.depth < cLine; omega) (fun _ _ e => e) fun h' t tk hk => ⟨_, _, rfl, ⟨.str d.shown, H, I.kept hk, ⟨_, rfl⟩, q⟩⟩)
  cases hd with
  | non =>
    cases ru
    exact PySem.P.repr_of_none ⟨.str "None", H, I.tok _, ⟨_, rfl⟩, q⟩
  | bl b =>
    cases ru
    exact PySem.P.repr_of_bool ⟨.str (PyData.shown (.bool b)), H, I.tok _, ⟨_, rfl⟩, q⟩
  | int i =>
    obtain ⟨t, rfl⟩ := ru
    have hi : i.natAbs.log2 < 1920 := of_decide_eq_true hs
    exact PySem.P.repr_of_int hi ⟨.str (PyData.shown (.int i)), H, I.tok _, ⟨_, rfl⟩, q⟩
  | str x =>
    obtain ⟨t, rfl⟩ := ru
    exact PySem.P.repr_of_str ⟨.str (PyData.shown (.str x)), H, I.tok _, ⟨_, rfl⟩, q⟩ hz
  | @lst a xs ds e da =>
    cases ru
    obtain ⟨its, rv, ⟨o, n, ho, hc, _, hdt⟩, _⟩ := I.list (SqL.of e)
    have hz2 : (listText (PyData.shownAll ds)).length ≤ sizeLine := by simpa only [PyData.shown] using hz
    obtain ⟨as, ra, bs, hb, hk⟩ := told_dts I ds da rv (by simpa [PyData.showable] using hs) fun t ht => Nat.le_trans (listText_mem_le ht) hz2
    have rr : Reads s.heap (.ref a) (.list ds) _ := .list ho hc hdt ra
    have out : a ∉ bs := not_mem_of_deeper rr (by simp only [PyData.depth]; omega) hb
    refine fin a "list" "list.__repr__" ⟨F.slot_list_repr.toG, F.slot_list_str, F.slot_list_format, fun s' hk0 => ⟨o, hk0 _ _ ho, hc⟩, fun A E s' Q' hg' hu' hk0 hQ => ?_⟩
    simp only [PyData.depth] at hu'
    simp only [PyData.shown] at hQ
    cases its with
    | nil =>
      cases ra
      simp only [PyData.shownAll, listText_nil] at hQ
      exact call_list_repr_empty ⟨o, hk0 _ _ ho, hc⟩ (hk0 _ _ ho) hdt (hQ s'.heap _ _ fun _ _ e => e)
    | cons x l => exact call_list_reprK ho hc hdt out (by simpa using hk.length_eq) (fun i y e => hk.item i y (by simpa using e)) hg' (fun b _ => Clear.nil b) hu' hk0 hQ hz2
  | @tup a xs ds e da =>
    cases ru
    obtain ⟨its, rv, ⟨o, ho, hc, n, hdt⟩, _⟩ := I.tuple (SqT.of e)
    have hz2 : (tupleText (PyData.shownAll ds)).length ≤ sizeLine := by simpa only [PyData.shown] using hz
    obtain ⟨as, ra, bs, hb, hk⟩ := told_dts I ds da rv (by simpa [PyData.showable] using hs) fun t ht => Nat.le_trans (tupleText_mem_le ht) hz2
    have rr : Reads s.heap (.ref a) (.tuple ds) _ := .tuple ho hc hdt ra
    have out : a ∉ bs := not_mem_of_deeper rr (by simp only [PyData.depth]; omega) hb
    refine fin a "tuple" "tuple.__repr__" ⟨F.slot_tuple_repr, F.slot_tuple_str, F.slot_tuple_format, fun s' hk0 => ⟨o, hk0 _ _ ho, hc⟩, fun A E s' Q' hg' hu' hk0 hQ => ?_⟩
    simp only [PyData.depth] at hu'
    simp only [PyData.shown] at hQ
    exact call_tuple_reprK ho hc hdt out hk hg' (fun b _ => Clear.nil b) hu' hk0 hQ hz2
  | @dct a e =>
    cases ru
    obtain ⟨o, es, n, ho, hc, hdt, ee, low⟩ := dict_at I e
    have rr : Reads s.heap (.ref a) (.dict []) (a :: [] ++ []) := .dict ho hc hdt (by rw [ee]; exact .nil) (by rw [ee]; exact .nil)
    refine repr_of_reads' rr hs (fun _ m => ?_) hg hu (fun _ _ z => z) (fun h' w tk hk => ⟨.str (PyData.shown (.dict [])), H, I.kept hk, ⟨_, rfl⟩, q⟩) hz
    have : sysModules = a := by simpa using m
    rw [← this] at low
    simp at low
end Cb
set_option Elab.async false
set_option linter.all false
set_option maxRecDepth 100000
set_option maxHeartbeats 4000000
namespace Cb
open PySem PySem.Spec PyProof.Rows L2
/-! ### small words -/
theorem ifNeI {i j : Int} {A B : Prop} (y : ¬ i = j → A) (n : i = j → B) : if (!decide (V.int i = V.int j)) = true then A else B := by
  by_cases h : i = j
  · rw [decide_eq_true (congrArg V.int h)]
    exact iteF (n h)
  · rw [decide_eq_false (fun e => h (V.int.inj e))]
    exact iteT (y h)
theorem ifEqI {i j : Int} {A B : Prop} (y : i = j → A) (n : ¬ i = j → B) : if decide (V.int i = V.int j) = true then A else B := by
  by_cases h : i = j
  · rw [decide_eq_true (congrArg V.int h)]
    exact iteT (y h)
  · rw [decide_eq_false (fun e => h (V.int.inj e))]
    exact iteF (n h)
theorem ifGt {i j : Int} {A B : Prop} (y : j < i → A) (n : ¬ j < i → B) : if decide (i > j) = true then A else B := by
  by_cases h : j < i
  · rw [decide_eq_true (show i > j from h)]
    exact iteT (y h)
  · rw [decide_eq_false (show ¬ i > j from h)]
    exact iteF (n h)
theorem ifNo {b : Bool} {A B : Prop} (y : b = false → A) (n : b = true → B) : if (!b) = true then A else B := by
  cases b with
  | false => exact iteT (y rfl)
  | true => exact iteF (n rfl)
theorem neN {x : V} {A B : Prop} (b : B) : if (!decide (x = x)) = true then A else B := by
  rw [decide_eq_true rfl]
  exact iteF b
theorem nin1 {a b : Addr} (h : a ≠ b) : a ∉ [b] := by simp [h]
theorem same_keep {S : List Addr} {H H' : Hp} (s : Same H H') : Keep S H H' := fun b o _ e => s b o e
theorem hidS {S : List Addr} {H H' : Hp} (s : Same H H') : Same (hid S H) (hid S H') := Keep.hid (same_keep s)
theorem DTs.snoc {H : Hp} : ∀ {xs : List V} {ds : List PyData} {x : V} {d : PyData}, DTs H xs ds → DT H x d → DTs H (xs ++ [x]) (ds ++ [d])
  | _, [], _, _, h, a => by cases h; exact .cons a .nil
  | _, e :: ds, _, _, h, a => by
    cases h with
    | cons b r => exact .cons b (DTs.snoc (ds := ds) r a)
theorem DTs.app {H : Hp} : ∀ {xs ys : List V} {ds es : List PyData}, DTs H xs ds → DTs H ys es → DTs H (xs ++ ys) (ds ++ es)
  | _, _, [], _, h, a => by cases h; exact a
  | _, _, e :: ds, _, h, a => by
    cases h with
    | cons b r => exact .cons b (DTs.app (ds := ds) r a)
theorem DTs.two {H : Hp} {xs : List V} {ds : List PyData} (r : DTs H xs ds) (h : ds.length = 2) : ∃ x y a b, xs = [x, y] ∧ ds = [a, b] ∧ DT H x a ∧ DT H y b := by
  match ds, h, r with
  | [a, b], _, .cons h1 (.cons h2 .nil) => exact ⟨_, _, _, _, rfl, rfl, h1, h2⟩
theorem DTs.three {H : Hp} {xs : List V} {ds : List PyData} (r : DTs H xs ds) (h : ds.length = 3) : ∃ x y z a b c, xs = [x, y, z] ∧ ds = [a, b, c] ∧ DT H x a ∧ DT H y b ∧ DT H z c := by
  match ds, h, r with
  | [a, b, c], _, .cons h1 (.cons h2 (.cons h3 .nil)) => exact ⟨_, _, _, _, _, _, rfl, rfl, h1, h2, h3⟩
theorem DTs.five {H : Hp} {xs : List V} {ds : List PyData} (r : DTs H xs ds) (h : ds.length = 5) : ∃ v1 v2 v3 v4 v5 a b c d e, xs = [v1, v2, v3, v4, v5] ∧ ds = [a, b, c, d, e] ∧ DT H v1 a ∧ DT H v2 b ∧ DT H v3 c ∧ DT H v4 d ∧ DT H v5 e := by
  match ds, h, r with
  | [a, b, c, d, e], _, .cons h1 (.cons h2 (.cons h3 (.cons h4 (.cons h5 .nil)))) => exact ⟨_, _, _, _, _, _, _, _, _, _, rfl, rfl, h1, h2, h3, h4, h5⟩
theorem small1000' {n : Nat} (h : n ≤ 5000) : n < sizeLine := Nat.lt_of_le_of_lt h (by decide)
theorem not_non {H : Hp} {v : V} {d : PyData} (h : DT H v d) (n : d ≠ .none) : decide (v = V.non) = false := by
  cases h with
  | non => exact absurd rfl n
  | bl b => rfl
  | int i => rfl
  | str z => rfl
  | lst _ _ => rfl
  | tup _ _ => rfl
  | dct _ => rfl
/-! ### contents -/
def lo : Int := -9223372036854775808
def hi : Int := 9223372036854775807
def inR (i : Int) : Bool := decide (lo ≤ i) && decide (i ≤ hi)
def wholeD : PyData → Bool
  | .int _ => true
  | _ => false
def isNumD : PyData → Bool
  | .int i => inR i
  | _ => false
def linkB (n low : Int) : PyData → Bool
  | .int i => decide (low ≤ i) && decide (i ≤ n)
  | _ => false
def contP (inner : Bool) (n : Int) : PyData → Bool
  | .none => true
  | .bool _ => true
  | .int i => inR i
  | .tuple [.str z, x] => if z = "bare" then isWord x else (decide (z = "cell") || (!inner && decide (z = "hollow"))) && linkB n 1 x
  | _ => false
/-- what may stand as a content, right or wrong -/
def tc (d : PyData) : Prop := ∀ a x, d = .tuple [a, x] → ∃ z, a = .str z ∧ (z = "bare" → x = .str "nil" ∨ ∃ i, x = .int i)
def cellP (n : Int) : PyData → Bool
  | .tuple [_, .tuple xs, l] => linkB n 0 l && (decide (xs.length ≤ 4) && xs.all (contP true n))
  | _ => false
def formP : PyData → Bool
  | .tuple [.list rs, a, b, c, .list cs] => decide (rs.length = 64) && rs.all (contP false cs.length) && [a, b, c].all (linkB cs.length 0) && cs.all (cellP cs.length)
  | _ => false
def tcell (c : PyData) : Prop := ∀ m xs l, c = .tuple [m, .tuple xs, l] → xs.length < 900 ∧ ∀ x ∈ xs, tc x
def tpic (d : PyData) : Prop := ∀ r a b c k, d = .tuple [r, a, b, c, k] → (∀ rs, r = .list rs → rs.length < 900 ∧ ∀ x ∈ rs, tc x) ∧ ∀ cs, k = .list cs → cs.length < 900 ∧ ∀ x ∈ cs, tcell x
def wordsV (inner : Bool) : List V := if inner then [.str "cell"] else [.str "cell", .str "hollow"]
abbrev s_is_whole : Stmt := topS 11
theorem sc_is_whole : FnScope ["value"] ["value"] (defScope s_is_whole) := ⟨rfl, rfl, rfl, by decide +kernel, rfl, by decide +kernel, by decide +kernel⟩
abbrev s_is_number : Stmt := topS 12
theorem sc_is_number : FnScope ["value"] ["value"] (defScope s_is_number) := ⟨rfl, rfl, rfl, by decide +kernel, rfl, by decide +kernel, by decide +kernel⟩
abbrev s_is_link : Stmt := topS 15
theorem sc_is_link : FnScope ["value", "many"] ["value", "many"] (defScope s_is_link) := ⟨rfl, rfl, rfl, by decide +kernel, rfl, by decide +kernel, by decide +kernel⟩
abbrev s_is_content : Stmt := topS 16
theorem sc_is_content : FnScope ["value", "many", "words"] ["value", "many", "words"] (defScope s_is_content) := ⟨rfl, rfl, rfl, by decide +kernel, rfl, by decide +kernel, by decide +kernel⟩
structure TCon (K : PySem.W.Frag) (w : World) (mg : Str → Option Value) : Prop where
  tw : TWord K w mg
  d_is_whole : Has K mg "is_whole" s_is_whole ["value"]
  d_is_number : Has K mg "is_number" s_is_number ["value"]
  d_is_link : Has K mg "is_link" s_is_link ["value", "many"]
  d_is_content : Has K mg "is_content" s_is_content ["value", "many", "words"]
  b_int : mg "int" = none
  b_bool : mg "bool" = none
  b_tuple : mg "tuple" = none
  g_LEAST : ∃ t, mg "LEAST" = some (.int lo t)
  g_GREATEST : ∃ t, mg "GREATEST" = some (.int hi t)
theorem kit_i : ∀ d : PyData, kitB (tyN d) "int" = some (match d with | .int _ => true | .bool _ => true | _ => false)
  | .none => by show kitB "NoneType" "int" = some false; decide +kernel
  | .bool _ => by show kitB "bool" "int" = some true; decide +kernel
  | .int _ => by show kitB "int" "int" = some true; decide +kernel
  | .str _ => by show kitB "str" "int" = some false; decide +kernel
  | .list _ => by show kitB "list" "int" = some false; decide +kernel
  | .tuple _ => by show kitB "tuple" "int" = some false; decide +kernel
  | .dict _ => by show kitB "dict" "int" = some false; decide +kernel
theorem kit_b : ∀ d : PyData, kitB (tyN d) "bool" = some (match d with | .bool _ => true | _ => false)
  | .none => by show kitB "NoneType" "bool" = some false; decide +kernel
  | .bool _ => by show kitB "bool" "bool" = some true; decide +kernel
  | .int _ => by show kitB "int" "bool" = some false; decide +kernel
  | .str _ => by show kitB "str" "bool" = some false; decide +kernel
  | .list _ => by show kitB "list" "bool" = some false; decide +kernel
  | .tuple _ => by show kitB "tuple" "bool" = some false; decide +kernel
  | .dict _ => by show kitB "dict" "bool" = some false; decide +kernel
section
variable {P : Program} {w : World} {K : PySem.W.Frag} {mg : Str → Option Value} {base : Heap}
/-- any data -/
def sp_any (f : PyData → Bool) : Sp := fun vs H Q _ => ∃ (v : V) (d : PyData), vs = [v] ∧ DT H v d ∧ Q (.bl (f d)) H
theorem c_is_whole (T : TCon K w mg) : Says P w K mg base 1 "is_whole" ["value"] (sp_any wholeD) := by
  refine says T.d_is_whole sc_is_whole (fun vs H Q E h => ?_) (fun f cdv A outer s H vs Q E hr h => ?_)
  · obtain ⟨_, _, rfl, _⟩ := h; rfl
  · refine ⟨_, (pss_one (ps_ret (pe_and (pe_callB call_isi (by rfl) T.tw.b_isinstance (by decide +kernel) (pa_cons (pv 0) (pa_cons (pe_bltn (v := .ty "int") (by rfl) T.b_int (by decide +kernel) rfl) pa_nil))) (pe_one (pe_not (pe_callB call_isi (by rfl) T.tw.b_isinstance (by decide +kernel) (pa_cons (pv 0) (pa_cons (pe_bltn (v := .ty "bool") (by rfl) T.b_bool (by decide +kernel) rfl) pa_nil)))))))), ?_⟩
    obtain ⟨v, d, rfl, hd, q⟩ := h
    refine ⟨_, rfl, _, _, _, _, _, rfl, .ty _, hd.ty, kit_ty (kit_i d), _, rfl, ?_⟩
    cases d with
    | int i => exact iteT ⟨_, rfl, _, _, _, _, _, rfl, .ty _, hd.ty, kit_ty (kit_b _), _, rfl, q⟩
    | bool b => exact iteT ⟨_, rfl, _, _, _, _, _, rfl, .ty _, hd.ty, kit_ty (kit_b _), _, rfl, q⟩
    | none => exact iteF q
    | str z => exact iteF q
    | list ds => exact iteF q
    | tuple ds => exact iteF q
    | dict ds => exact iteF q
theorem c_is_number (T : TCon K w mg) : Says P w K mg base 2 "is_number" ["value"] (sp_any isNumD) := by
  obtain ⟨tl, gl⟩ := T.g_LEAST
  obtain ⟨tg, gg⟩ := T.g_GREATEST
  refine says T.d_is_number sc_is_number (fun vs H Q E h => ?_) (fun f cdv A outer s H vs Q E hr h => ?_)
  · obtain ⟨_, _, rfl, _⟩ := h; rfl
  · refine ⟨_, (pss_one (ps_ret (pe_and (pe_s (c_is_whole T) hr (pa_cons (pv 0) pa_nil)) (pe_one (pe_chain op_le op_le (pe_glob (v := .int lo) rfl gl ⟨_, rfl⟩) (pv 0) (pe_glob (v := .int hi) rfl gg ⟨_, rfl⟩)))))), ?_⟩
    obtain ⟨v, d, rfl, hd, q⟩ := h
    refine ⟨_, rfl, v, d, rfl, hd, _, rfl, ?_⟩
    cases d with
    | int i =>
      cases hd
      refine iteT ?_
      have q : Q (.bl (inR i)) H := q
      refine ⟨_, rfl, _, _, rfl, rfl, _, rfl, ?_⟩
      unfold inR at q
      by_cases h1 : lo ≤ i
      · rw [decide_eq_true h1] at q ⊢
        exact iteT ⟨_, _, rfl, rfl, q⟩
      · rw [decide_eq_false h1] at q ⊢
        exact iteF q
    | bool b => exact iteF q
    | none => exact iteF q
    | str z => exact iteF q
    | list ds => exact iteF q
    | tuple ds => exact iteF q
    | dict ds => exact iteF q
def sp_link : Sp := fun vs H Q _ => ∃ (v : V) (d : PyData) (n : Int), vs = [v, .int n] ∧ DT H v d ∧ Q (.bl (linkB n 0 d)) H
theorem c_is_link (T : TCon K w mg) : Says P w K mg base 2 "is_link" ["value", "many"] sp_link := by
  refine says T.d_is_link sc_is_link (fun vs H Q E h => ?_) (fun f cdv A outer s H vs Q E hr h => ?_)
  · obtain ⟨_, _, _, rfl, _⟩ := h; rfl
  · refine ⟨_, (pss_one (ps_ret (pe_and (pe_s (c_is_whole T) hr (pa_cons (pv 0) pa_nil)) (pe_one (pe_chain op_le op_le pe_int (pv 0) (pv 1)))))), ?_⟩
    obtain ⟨v, d, n, rfl, hd, q⟩ := h
    refine ⟨_, rfl, v, d, rfl, hd, _, rfl, ?_⟩
    cases d with
    | int i =>
      cases hd
      refine iteT ?_
      have q : Q (.bl (decide (0 ≤ i) && decide (i ≤ n))) H := q
      refine ⟨_, rfl, _, _, rfl, rfl, _, rfl, ?_⟩
      by_cases h1 : 0 ≤ i
      · rw [decide_eq_true h1] at q ⊢
        exact iteT ⟨_, rfl, _, _, rfl, rfl, q⟩
      · rw [decide_eq_false h1] at q ⊢
        exact iteF q
    | bool b => exact iteF q
    | none => exact iteF q
    | str z => exact iteF q
    | list ds => exact iteF q
    | tuple ds => exact iteF q
    | dict ds => exact iteF q
theorem inV_words (z : Str) (inner : Bool) : inV (.str z) (wordsV inner) = (decide (z = "cell") || (!inner && decide (z = "hollow"))) := by
  have e : ∀ t : Str, eqV (V.str t) (V.str z) = decide (z = t) := fun t => by
    show (t == z) = decide (z = t)
    by_cases h : z = t
    · simp [h]
    · simp [h, Ne.symm h]
  cases inner with
  | true =>
    show ([V.str "cell"].any fun y => eqV y (V.str z)) = _
    simp [e]
  | false =>
    show ([V.str "cell", V.str "hollow"].any fun y => eqV y (V.str z)) = _
    simp [e]
theorem ok_bare {x : PyData} (h : x = .str "nil" ∨ ∃ i, x = .int i) : OKd x := by
  rcases h with rfl | ⟨i, rfl⟩
  · exact okd_str (by decide +kernel) (by decide)
  · exact ⟨rfl, by simp [PyData.depth]⟩
theorem contP_len {inner : Bool} {n : Int} {ds : List PyData} (h : ds.length ≠ 2) : contP inner n (.tuple ds) = false := by
  match ds, h with
  | [], _ => rfl
  | [_], _ => simp [contP]
  | [_, _], h => exact absurd rfl h
  | _ :: _ :: _ :: _, _ => simp [contP]
def sp_content : Sp := fun vs H Q _ => ∃ (v : V) (d : PyData) (n : Int) (t : Addr) (inner : Bool), vs = [v, .int n, .ref t] ∧ DT H v d ∧ tc d ∧ H t = some (.tup (wordsV inner)) ∧ ∀ H', Same H H' → Q (.bl (contP inner n d)) H'
theorem c_is_content (T : TCon K w mg) : Says P w K mg base 3 "is_content" ["value", "many", "words"] sp_content := by
  refine says T.d_is_content sc_is_content (fun vs H Q E h => ?_) (fun f cdv A outer s H vs Q E hr h => ?_)
  · obtain ⟨_, _, _, _, _, rfl, _⟩ := h; rfl
  refine ⟨_, (pss_cons (ps_if (PW.pt (pw_or (pt_cmpR op_isN (pv 0) pe_non (nomark _)) (pw_or (pt_val (pe_callB call_isi (by rfl) T.tw.b_isinstance (by decide +kernel) (pa_cons (pv 0) (pa_cons (pe_bltn (v := .ty "bool") (by rfl) T.b_bool (by decide +kernel) rfl) pa_nil)))) (pw_or1 (pt_val (pe_s (c_is_number T) hr (pa_cons (pv 0) pa_nil)))))))
        (pss_one (ps_ret pe_bl))
        pss_nil)
    (pss_cons (ps_if (PW.pt (pw_or (pt_not (pt_val (pe_callB call_isi (by rfl) T.tw.b_isinstance (by decide +kernel) (pa_cons (pv 0) (pa_cons (pe_bltn (v := .ty "tuple") (by rfl) T.b_tuple (by decide +kernel) rfl) pa_nil))))) (pw_or (pt_cmpR op_ne (pe_callB call_len_seq (by rfl) T.tw.b_len (by decide +kernel) (pa_cons (pv 0) pa_nil)) pe_int (nomark _)) (pw_or1 (pt_not (pt_val (pe_callB call_isi (by rfl) T.tw.b_isinstance (by decide +kernel) (pa_cons (pe_ix ix_tup (pv 0) pe_int (fun _ _ => rfl)) (pa_cons (pe_bltn (v := .ty "str") (by rfl) T.tw.b_str (by decide +kernel) rfl) pa_nil)))))))))
        (pss_one (ps_ret pe_bl))
        pss_nil)
    (pss_cons (ps_if (pt_cmpR op_eq (pe_ix ix_tup (pv 0) pe_int (fun _ _ => rfl)) pe_str (nomark _))
        (pss_one (ps_ret (pe_s (c_is_word T.tw) hr (pa_cons (pe_ix ix_tup (pv 0) pe_int (fun _ _ => rfl)) pa_nil))))
        pss_nil)
    (pss_one (ps_ret (pe_and (pe_cmpR op_in_seq (pe_ix ix_tup (pv 0) pe_int (fun _ _ => rfl)) (pv 2) (by rfl)) (pe_and (pe_s (c_is_link T) hr (pa_cons (pe_ix ix_tup (pv 0) pe_int (fun _ _ => rfl)) (pa_cons (pv 1) pa_nil))) (pe_one (pe_cmpR op_gt (pe_ix ix_tup (pv 0) pe_int (fun _ _ => rfl)) pe_int (nomark _)))))))))), ?_⟩
  obtain ⟨v, d, n, t, inner, rfl, hd, ht, hw, q⟩ := h
  refine ⟨_, rfl, rfl, _, rfl, ?_⟩
  by_cases hn : d = .none
  · subst hn
    cases hd
    exact iteT (q _ (Same.refl _))
  rw [not_non hd hn]
  refine iteF ⟨_, rfl, _, _, _, _, _, rfl, .ty _, hd.ty, kit_ty (kit_b _), _, rfl, ?_⟩
  cases d with
  | none => exact absurd rfl hn
  | bool b => exact iteT (q _ (Same.refl _))
  | int i =>
    refine iteF ⟨_, rfl, v, _, rfl, hd, _, rfl, ?_⟩
    have q2 := q _ (Same.refl _)
    show if inR i = true then _ else _
    have e : contP inner n (.int i) = inR i := rfl
    rw [e] at q2
    cases h : inR i with
    | true =>
      rw [h] at q2
      exact iteT q2
    | false =>
      rw [h] at q2
      exact iteF ⟨_, rfl, _, _, _, _, _, rfl, .ty _, hd.ty, kit_ty (kit_t _), _, rfl, iteT q2⟩
  | str z => exact iteF ⟨_, rfl, v, _, rfl, hd, _, rfl, iteF ⟨_, rfl, _, _, _, _, _, rfl, .ty _, hd.ty, kit_ty (kit_t _), _, rfl, iteT (q _ (Same.refl _))⟩⟩
  | list ds => exact iteF ⟨_, rfl, v, _, rfl, hd, _, rfl, iteF ⟨_, rfl, _, _, _, _, _, rfl, .ty _, hd.ty, kit_ty (kit_t _), _, rfl, iteT (q _ (Same.refl _))⟩⟩
  | dict ds => exact iteF ⟨_, rfl, v, _, rfl, hd, _, rfl, iteF ⟨_, rfl, _, _, _, _, _, rfl, .ty _, hd.ty, kit_ty (kit_t _), _, rfl, iteT (q _ (Same.refl _))⟩⟩
  | tuple ds =>
    refine iteF ⟨_, rfl, v, _, rfl, hd, _, rfl, iteF ⟨_, rfl, _, _, _, _, _, rfl, .ty _, hd.ty, kit_ty (kit_t _), _, rfl, iteF ?_⟩⟩
    cases hd with
    | @tup p xs _ e r =>
      have lx := r.length
      refine ⟨_, rfl, p, xs, rfl, .inr (SqT.of e), rfl, _, rfl, ifNeI (fun h => ?_) (fun h => ?_)⟩
      · have q2 := q _ (Same.refl _)
        rw [contP_len (by omega)] at q2
        exact q2
      · obtain ⟨x, y, a, b, rfl, rfl, ha, hb⟩ := r.two (by omega)
        obtain ⟨z, rfl, hz⟩ := ht _ _ rfl
        cases ha
        refine ⟨_, rfl, p, _, _, _, rfl, rfl, SqT.of e, rfl, _, _, _, _, _, rfl, .ty _, .base (.str _), kit_ty (kit_s (.str z)), _, rfl, iteF ?_⟩
        refine ⟨_, rfl, p, _, _, _, rfl, rfl, SqT.of e, rfl, rfl, _, rfl, ?_⟩
        have ec : contP inner n (.tuple [.str z, b]) = if z = "bare" then isWord b else (decide (z = "cell") || (!inner && decide (z = "hollow"))) && linkB n 1 b := rfl
        rw [ec] at q
        by_cases hb1 : z = "bare"
        · rw [if_pos hb1] at q
          rw [decide_eq_true (congrArg V.str hb1)]
          exact iteT ⟨_, rfl, p, _, _, _, rfl, rfl, SqT.of e, rfl, y, b, rfl, hb, ok_bare (hz hb1), q⟩
        · rw [if_neg hb1] at q
          rw [decide_eq_false fun e => hb1 (V.str.inj e)]
          refine iteF ⟨_, rfl, p, _, _, _, rfl, rfl, SqT.of e, rfl, _, rfl, t, _, rfl, .inr (SqT.of hw), rfl, by cases inner <;> rfl, _, rfl, ?_⟩
          show if inV (V.str z) (wordsV inner) = true then _ else _
          rw [inV_words]
          have q2 := q _ (Same.refl _)
          cases hin : (decide (z = "cell") || (!inner && decide (z = "hollow"))) with
          | false =>
            rw [hin] at q2
            exact iteF q2
          | true =>
            rw [hin, Bool.true_and] at q2
            refine iteT ⟨_, rfl, p, _, _, _, rfl, rfl, SqT.of e, rfl, _, rfl, y, b, n, rfl, hb, _, rfl, ?_⟩
            cases hl : linkB n 0 b with
            | false =>
              have : linkB n 1 b = false := by
                cases b with
                | int i =>
                  simp only [linkB, Bool.and_eq_false_iff, decide_eq_false_iff_not] at hl ⊢
                  omega
                | _ => rfl
              rw [this] at q2
              exact iteF q2
            | true =>
              cases b with
              | int i =>
                cases hb
                refine iteT ⟨_, rfl, p, _, _, _, rfl, rfl, SqT.of e, rfl, _, _, rfl, rfl, ?_⟩
                have h0 : 0 ≤ i ∧ i ≤ n := by simpa [linkB] using hl
                have : decide (i > 0) = linkB n 1 (.int i) := by
                  by_cases hp : 0 < i
                  · rw [decide_eq_true (show i > 0 from hp)]
                    simp [linkB, h0.2]
                    omega
                  · rw [decide_eq_false (show ¬ i > 0 from hp)]
                    simp [linkB]
                    omega
                rw [← this] at q2
                exact q2
              | _ => simp [linkB] at hl
end
end Cb
set_option Elab.async false
set_option linter.all false
set_option maxRecDepth 100000
set_option maxHeartbeats 4000000
namespace Cb
open PySem PySem.Spec PyProof.Rows L2
abbrev s_is_cell_form : Stmt := topS 17
theorem sc_is_cell_form : FnScope ["value", "many", "content"] ["value", "many"] (defScope s_is_cell_form) := ⟨rfl, rfl, rfl, by decide +kernel, rfl, by decide +kernel, by decide +kernel⟩
abbrev s_is_picture_form : Stmt := topS 18
abbrev NPf : List Str := ["value", "slots", "cells", "many", "content", "number", "cell"]
theorem sc_is_picture_form : FnScope NPf ["value"] (defScope s_is_picture_form) := ⟨rfl, rfl, rfl, by decide +kernel, rfl, by decide +kernel, by decide +kernel⟩
structure TPic (K : PySem.W.Frag) (w : World) (mg : Str → Option Value) : Prop where
  tn : TCon K w mg
  d_is_cell_form : Has K mg "is_cell_form" s_is_cell_form ["value", "many"]
  d_is_picture_form : Has K mg "is_picture_form" s_is_picture_form ["value"]
  g_MOST_PARTS : ∃ t, mg "MOST_PARTS" = some (.int 4 t)
  g_SLOTS : ∃ t, mg "SLOTS" = some (.int 64 t)
theorem cellP_len {n : Int} {ds : List PyData} (h : ds.length ≠ 3) : cellP n (.tuple ds) = false := by
  match ds, h with
  | [], _ => rfl
  | [_], _ => simp [cellP]
  | [_, _], _ => simp [cellP]
  | [_, _, _], h => exact absurd rfl h
  | _ :: _ :: _ :: _ :: _, _ => simp [cellP]
theorem formP_len {ds : List PyData} (h : ds.length ≠ 5) : formP (.tuple ds) = false := by
  match ds, h with
  | [], _ => rfl
  | [_], _ => simp [formP]
  | [_, _], _ => simp [formP]
  | [_, _, _], _ => simp [formP]
  | [_, _, _, _], _ => simp [formP]
  | [_, _, _, _, _], h => exact absurd rfl h
  | _ :: _ :: _ :: _ :: _ :: _ :: _, _ => simp [formP]
section
variable {P : Program} {w : World} {K : PySem.W.Frag} {mg : Str → Option Value} {base : Heap}
/-- all([f(x) for x in xs]) by a walk -/
theorem lc_all {f : PyData → Bool} {J : It} {n : Nat} {G : Hp → Prop} {Y : Nat → Hp → V → Hp → Prop} {i : Nat} {te : TE} {σ : L2.St} {H1 : Hp} {D : Addr} {Qd : Hp → Prop} {ds : List PyData} (wk : Walk J n G Y) (g0 : ∀ H, Same H1 H → G H) (y0 : ∀ j H x H', Y j H x H' → H' = H) (hD : H1 D = none) (len : ds.length = n) (small : n < 1000)
    (hs : ∀ (j : Nat) (x : V) (d : PyData) (H' : Hp) (Q : VK), Same H1 H' → Y j H' x H' → ds[j]? = some d → (∀ H'', Same H' H'' → Q (.bl (f d)) H'') → te ((wipe σ [i]).set i (some x)) H' Q)
    (hd : ∀ H', Same H1 H' → H' D = some (.lst ((ds.map f).map V.bl)) → Qd H') :
    ∃ W : Nat → Nat → Hp → Prop, (∃ m, W 0 m (upd H1 D (.lst []))) ∧ ∀ k m H, W k m H →
      (J.stop k H ∧ Qd H) ∨ (J.go k H ∧ ∃ Nx : Hp → Prop, (∀ H', Nx H' → ∃ m', m' < m ∧ W (k + 1) m' H') ∧ ∀ x H', J.yld k H x H' → gName i x (wipe σ [i]) H' fun σ2 H2 => wipe σ2 [i] = wipe σ [i] ∧ tYes σ2 H2 fun b H3 =>
        if b = true then te σ2 H3 fun y H4 => ∃ acc, H4 D = some (.lst acc) ∧ acc.length < sizeLine ∧ Nx (upd H4 D (.lst (acc ++ [y]))) else Nx H3) := by
  refine lc_mapW wk (ys := ds.map fun d => V.bl (f d)) g0 y0 hD (by rw [List.length_map, len]) small ?_ ?_
  · rintro j x y H' Q' s1 hy hz q'
    rw [List.getElem?_map] at hz
    cases hdj : ds[j]? with
    | none =>
      rw [hdj] at hz
      cases hz
    | some d =>
      rw [hdj] at hz
      obtain rfl : V.bl (f d) = y := Option.some.inj hz
      exact hs j x d H' Q' s1 hy hdj q'
  · intro H' s1 hd2
    refine hd H' s1 ?_
    rw [hd2, List.map_map]
    rfl
theorem all_id (f : PyData → Bool) (ds : List PyData) : (ds.map f).all id = ds.all f := by
  rw [List.all_map]
  rfl
theorem ifAll {f : PyData → Bool} {ds : List PyData} {A B : Prop} (y : ds.all f = false → A) (n : ds.all f = true → B) : if (!(ds.map f).all id) = true then A else B := by
  rw [all_id]
  exact ifNo y n
def sp_cell_form : Sp := fun vs H Q _ => ∃ (v : V) (d : PyData) (n : Int), vs = [v, .int n] ∧ DT H v d ∧ tcell d ∧ ∀ H', Same H H' → Q (.bl (cellP n d)) H'
theorem c_is_cell_form (T : TPic K w mg) : Says P w K mg base 4 "is_cell_form" ["value", "many"] sp_cell_form := by
  obtain ⟨tm, gm⟩ := T.g_MOST_PARTS
  refine says T.d_is_cell_form sc_is_cell_form (fun vs H Q E h => ?_) (fun f cdv A outer s H vs Q E hr h => ?_)
  · obtain ⟨_, _, _, rfl, _⟩ := h; rfl
  refine ⟨_, (pss_cons (ps_if (PW.pt (pw_or (pt_not (pt_val (pe_callB call_isi (by rfl) T.tn.tw.b_isinstance (by decide +kernel) (pa_cons (pv 0) (pa_cons (pe_bltn (v := .ty "tuple") (by rfl) T.tn.b_tuple (by decide +kernel) rfl) pa_nil))))) (pw_or (pt_cmpR op_ne (pe_callB call_len_seq (by rfl) T.tn.tw.b_len (by decide +kernel) (pa_cons (pv 0) pa_nil)) pe_int (nomark _)) (pw_or1 (pt_not (pt_val (pe_s (c_is_link T.tn) hr (pa_cons (pe_ix ix_tup (pv 0) pe_int (fun _ _ => rfl)) (pa_cons (pv 1) pa_nil)))))))))
        (pss_one (ps_ret pe_bl))
        pss_nil)
    (pss_cons (ps_if (PW.pt (pw_or (pt_not (pt_val (pe_callB call_isi (by rfl) T.tn.tw.b_isinstance (by decide +kernel) (pa_cons (pe_ix ix_tup (pv 0) pe_int (fun _ _ => rfl)) (pa_cons (pe_bltn (v := .ty "tuple") (by rfl) T.tn.b_tuple (by decide +kernel) rfl) pa_nil))))) (pw_or1 (pt_cmpR op_gt (pe_callB call_len_seq (by rfl) T.tn.tw.b_len (by decide +kernel) (pa_cons (pe_ix ix_tup (pv 0) pe_int (fun _ _ => rfl)) pa_nil)) (pe_glob (v := .int 4) rfl gm ⟨_, rfl⟩) (nomark _)))))
        (pss_one (ps_ret pe_bl))
        pss_nil)
    (pss_one (ps_ret (pe_callB (cr_all rfl) (by rfl) T.tn.tw.b_all (by decide +kernel) (pa_cons (pe_lc (own := [("content", 2)]) (g := gName 2) (tt := tYes) rfl sc_is_cell_form.nd (pi_tup (pe_ix ix_tup (pv 0) pe_int (fun _ _ => rfl))) (blkOk_by (N := ["value", "many", "content"]) (sc := defScope s_is_cell_form) (own := [("content", 2)]) (by decide +kernel)) (fun _ _ _ _ _ => pg_name (i := 2) sc_is_cell_form.nd rfl (Or.inl rfl)) (fun _ _ _ _ _ => pts_nil) (fun _ _ _ _ _ => (pe_s (c_is_content T.tn) hr (pa_cons (pv 2) (pa_cons (pv 1) (pa_cons (pe_tup (pa_cons pe_str pa_nil)) pa_nil)))))) pa_nil)))))), ?_⟩
  obtain ⟨v, d, n, rfl, hd, ht, q⟩ := h
  refine ⟨_, rfl, _, _, _, _, _, rfl, .ty _, hd.ty, kit_ty (kit_t d), _, rfl, ?_⟩
  cases d with
  | tuple ds =>
    refine iteF ?_
    cases hd with
    | @tup p xs _ e r =>
      have lx := r.length
      refine ⟨_, rfl, p, xs, rfl, .inr (SqT.of e), rfl, _, rfl, ifNeI (fun h => ?_) (fun h => ?_)⟩
      · have q2 := q _ (Same.refl _)
        rw [cellP_len (by omega)] at q2
        exact q2
      · obtain ⟨x, y, z, a, b, c, rfl, rfl, ha, hb, hc⟩ := r.three (by omega)
        refine ⟨_, rfl, p, _, _, _, rfl, rfl, SqT.of e, rfl, _, rfl, z, c, n, rfl, hc, _, rfl, ifNo (fun hl => ?_) (fun hl => ?_)⟩
        · have q2 := q _ (Same.refl _)
          have : cellP n (.tuple [a, b, c]) = false := by
            cases b <;> simp [cellP, hl]
          rw [this] at q2
          exact q2
        · refine ⟨_, rfl, p, _, _, _, rfl, rfl, SqT.of e, rfl, _, _, _, _, _, rfl, .ty _, hb.ty, kit_ty (kit_t b), _, rfl, ?_⟩
          cases b with
          | tuple ks =>
            refine iteF ?_
            cases hb with
            | @tup p2 ys _ e2 r2 =>
              have ly := r2.length
              obtain ⟨l9, tk⟩ := ht _ _ _ rfl
              refine ⟨_, rfl, p, _, _, _, rfl, rfl, SqT.of e, rfl, p2, ys, rfl, .inr (SqT.of e2), _, _, rfl, rfl, _, rfl, ifGt (fun h4 => ?_) (fun h4 => ?_)⟩
              · have q2 := q _ (Same.refl _)
                rw [show cellP n (.tuple [a, .tuple ks, c]) = false by simp [cellP, hl]; omega] at q2
                exact q2
              · have q3 : ∀ H', Same H H' → Q (.bl (ks.all (contP true n))) H' := fun H' s' => by
                  have q2 := q _ s'
                  rwa [show cellP n (.tuple [a, .tuple ks, c]) = ks.all (contP true n) by simp [cellP, hl]; omega] at q2
                refine ⟨_, rfl, p, _, _, _, rfl, rfl, SqT.of e, rfl, _, rfl, ⟨_, SqT.of e2⟩, fun D hD => lc_all (f := contP true n) (walk_tup (K := K) (a := p2) (xs := ys)) (fun H' s' => SqT.of (s' _ _ e2)) (fun j H x H' y => y.1) hD ly.symm (by omega) ?_ fun H' s' hb => ⟨_, ks.map (contP true n), rfl, SqL.of hb, by rw [all_id]; exact q3 H' s'⟩⟩
                rintro j x d H' Q' s1 ⟨_, hx⟩ hj q'
                refine ⟨x, rfl, _, rfl, (show 1 ≤ sizeLine by decide), fun t nt => ?_⟩
                exact ⟨x, d, n, t, true, rfl, ((r2.get hx hj).same s1 _).same (same_new nt) _, tk _ (List.mem_of_getElem? hj), upd_same, fun H'' s'' => q' H'' ((same_new nt).trans s'')⟩
          | _ =>
            have q2 := q _ (Same.refl _)
            exact iteT q2
  | _ => exact iteT (q _ (Same.refl _))
def sp_pic_form : Sp := fun vs H Q _ => ∃ (v : V) (d : PyData), vs = [v] ∧ DT H v d ∧ tpic d ∧ ∀ H', Same H H' → Q (.bl (formP d)) H'
theorem c_is_picture_form (T : TPic K w mg) : Says P w K mg base 5 "is_picture_form" ["value"] sp_pic_form := by
  obtain ⟨tm, gm⟩ := T.g_SLOTS
  refine says T.d_is_picture_form sc_is_picture_form (fun vs H Q E h => ?_) (fun f cdv A outer s H vs Q E hr h => ?_)
  · obtain ⟨_, _, rfl, _⟩ := h; rfl
  refine ⟨_, (pss_cons (ps_if (PW.pt (pw_or (pt_not (pt_val (pe_callB call_isi (by rfl) T.tn.tw.b_isinstance (by decide +kernel) (pa_cons (pv 0) (pa_cons (pe_bltn (v := .ty "tuple") (by rfl) T.tn.b_tuple (by decide +kernel) rfl) pa_nil))))) (pw_or1 (pt_cmpR op_ne (pe_callB call_len_seq (by rfl) T.tn.tw.b_len (by decide +kernel) (pa_cons (pv 0) pa_nil)) pe_int (nomark _)))))
        (pss_one (ps_ret pe_bl))
        pss_nil)
    (pss_cons (ps_par (i := 1) (j := 2) rfl sc_is_picture_form.nd rfl rfl (by decide) rfl rfl (pa_cons (pe_ix ix_tup (pv 0) pe_int (fun _ _ => rfl)) (pa_cons (pe_ix ix_tup (pv 0) pe_int (fun _ _ => rfl)) pa_nil)) rfl)
    (pss_cons (ps_if (PW.pt (pw_or (pt_not (pt_val (pe_callB call_isi (by rfl) T.tn.tw.b_isinstance (by decide +kernel) (pa_cons (pv 1) (pa_cons (pe_bltn (v := .ty "list") (by rfl) T.tn.tw.b_list (by decide +kernel) rfl) pa_nil))))) (pw_or (pt_cmpR op_ne (pe_callB call_len_seq (by rfl) T.tn.tw.b_len (by decide +kernel) (pa_cons (pv 1) pa_nil)) (pe_glob (v := .int 64) rfl gm ⟨_, rfl⟩) (nomark _)) (pw_or1 (pt_not (pt_val (pe_callB call_isi (by rfl) T.tn.tw.b_isinstance (by decide +kernel) (pa_cons (pv 2) (pa_cons (pe_bltn (v := .ty "list") (by rfl) T.tn.tw.b_list (by decide +kernel) rfl) pa_nil)))))))))
        (pss_one (ps_ret pe_bl))
        pss_nil)
    (pss_cons (ps_set (i := 3) sc_is_picture_form.nd rfl (.inr rfl) (pe_callB call_len_seq (by rfl) T.tn.tw.b_len (by decide +kernel) (pa_cons (pv 2) pa_nil)))
    (pss_cons (ps_if (pt_not (pt_val (pe_callB (cr_all rfl) (by rfl) T.tn.tw.b_all (by decide +kernel) (pa_cons (pe_lc (own := [("content", 4)]) (g := gName 4) (tt := tYes) rfl sc_is_picture_form.nd (pi_list (pv 1)) (blkOk_by (N := NPf) (sc := defScope s_is_picture_form) (own := [("content", 4)]) (by decide +kernel)) (fun _ _ _ _ _ => pg_name (i := 4) sc_is_picture_form.nd rfl (Or.inl rfl)) (fun _ _ _ _ _ => pts_nil) (fun _ _ _ _ _ => (pe_s (c_is_content T.tn) hr (pa_cons (pv 4) (pa_cons (pv 3) (pa_cons (pe_tup (pa_cons pe_str (pa_cons pe_str pa_nil))) pa_nil)))))) pa_nil))))
        (pss_one (ps_ret pe_bl))
        pss_nil)
    (pss_cons (ps_if (pt_not (pt_val (pe_callB (cr_all rfl) (by rfl) T.tn.tw.b_all (by decide +kernel) (pa_cons (pe_lc (own := [("number", 5)]) (g := gName 5) (tt := tYes) rfl sc_is_picture_form.nd (pi_tup (pe_slice sl_tup (pv 0) (po_some pe_int) (po_some pe_int))) (blkOk_by (N := NPf) (sc := defScope s_is_picture_form) (own := [("number", 5)]) (by decide +kernel)) (fun _ _ _ _ _ => pg_name (i := 5) sc_is_picture_form.nd rfl (Or.inl rfl)) (fun _ _ _ _ _ => pts_nil) (fun _ _ _ _ _ => (pe_s (c_is_link T.tn) hr (pa_cons (pv 5) (pa_cons (pv 3) pa_nil))))) pa_nil))))
        (pss_one (ps_ret pe_bl))
        pss_nil)
    (pss_one (ps_ret (pe_callB (cr_all rfl) (by rfl) T.tn.tw.b_all (by decide +kernel) (pa_cons (pe_lc (own := [("cell", 6)]) (g := gName 6) (tt := tYes) rfl sc_is_picture_form.nd (pi_list (pv 2)) (blkOk_by (N := NPf) (sc := defScope s_is_picture_form) (own := [("cell", 6)]) (by decide +kernel)) (fun _ _ _ _ _ => pg_name (i := 6) sc_is_picture_form.nd rfl (Or.inl rfl)) (fun _ _ _ _ _ => pts_nil) (fun _ _ _ _ _ => (pe_s (c_is_cell_form T) hr (pa_cons (pv 6) (pa_cons (pv 3) pa_nil))))) pa_nil)))))))))), ?_⟩
  obtain ⟨v, d, rfl, hd, ht, q⟩ := h
  refine ⟨_, rfl, _, _, _, _, _, rfl, .ty _, hd.ty, kit_ty (kit_t d), _, rfl, ?_⟩
  cases d with
  | tuple ds =>
    refine iteF ?_
    cases hd with
    | @tup p xs _ e r =>
      have lx := r.length
      refine ⟨_, rfl, p, xs, rfl, .inr (SqT.of e), rfl, _, rfl, ifNeI (fun h => ?_) (fun h => ?_)⟩
      · have q2 := q _ (Same.refl _)
        rw [formP_len (by omega)] at q2
        exact q2
      · obtain ⟨v1, v2, v3, v4, v5, a, b, c, d, k, rfl, rfl, h1, h2, h3, h4, h5⟩ := r.five (by omega)
        refine ⟨_, rfl, p, _, _, _, rfl, rfl, SqT.of e, rfl, _, rfl, p, _, _, _, rfl, rfl, SqT.of e, rfl, _, _, rfl, ?_⟩
        refine ⟨_, rfl, _, _, _, _, _, rfl, .ty _, h1.ty, kit_ty (kit_l a), _, rfl, ?_⟩
        cases a with
        | list rs =>
          refine iteF ?_
          cases h1 with
          | @lst p1 rv _ e1 r1 =>
            have l1 := r1.length
            refine ⟨_, rfl, p1, rv, rfl, .inl (SqL.of e1), rfl, _, rfl, ifNeI (fun h => ?_) (fun h => ?_)⟩
            · have q2 := q _ (Same.refl _)
              have : formP (.tuple [.list rs, b, c, d, k]) = false := by
                cases k with
                | list cs =>
                  simp only [formP, Bool.and_eq_false_iff, decide_eq_false_iff_not]
                  exact .inl (.inl (.inl (by omega)))
                | _ => simp [formP]
              rw [this] at q2
              exact q2
            · refine ⟨_, rfl, _, _, _, _, _, rfl, .ty _, h5.ty, kit_ty (kit_l k), _, rfl, ?_⟩
              cases k with
              | list cs =>
                refine iteF ?_
                cases h5 with
                | @lst p5 cv _ e5 r5 =>
                  have l5 := r5.length
                  obtain ⟨t1, t5⟩ := ht _ _ _ _ _ rfl
                  obtain ⟨m1, t1⟩ := t1 _ rfl
                  obtain ⟨m5, t5⟩ := t5 _ rfl
                  have h64 : decide (rs.length = 64) = true := decide_eq_true (by omega)
                  have ef : formP (.tuple [.list rs, b, c, d, .list cs]) = (rs.all (contP false cs.length) && [b, c, d].all (linkB cs.length 0) && cs.all (cellP cs.length)) := by
                    simp only [formP, h64, Bool.true_and]
                  rw [ef] at q
                  refine ⟨_, rfl, p5, cv, rfl, .inl (SqL.of e5), ?_⟩
                  have el : (V.int ((cv.length : Nat) : Int)) = V.int ((cs.length : Nat) : Int) := by rw [l5]
                  rw [el]
                  refine ⟨_, rfl, _, rfl, ⟨_, SqL.of e1⟩, fun D hD => lc_all (f := contP false cs.length) (walk_list (K := K) (a := p1) (xs := rv)) (fun H' s' => SqL.of (s' _ _ e1)) (fun j H x H' y => y.1) hD l1.symm (by omega) ?_ fun H1 s1 hb => ⟨_, rs.map (contP false cs.length), rfl, SqL.of hb, _, rfl, ifAll (fun hb => ?_) (fun hb => ?_)⟩⟩
                  · rintro j x d H' Q' s1 ⟨_, hx⟩ hj q'
                    refine ⟨x, rfl, _, rfl, (show 2 ≤ sizeLine by decide), fun t nt => ?_⟩
                    exact ⟨x, d, _, t, false, rfl, ((r1.get hx hj).same s1 _).same (same_new nt) _, t1 _ (List.mem_of_getElem? hj), upd_same, fun H'' s'' => q' H'' ((same_new nt).trans s'')⟩
                  · have q2 := q _ s1
                    rw [hb] at q2
                    exact q2
                  rw [hb] at q
                  simp only [Bool.true_and] at q
                  refine ⟨_, rfl, 1, rfl, 4, rfl, p, _, rfl, SqT.of (s1 _ _ e), (fun z => absurd (show HT.sIx 5 0 (some 1) = 0 from z.1) (by decide)), fun sp nsp => ?_⟩
                  have s2 := s1.trans (same_new (o := .tup (cutV [.ref p1, v2, v3, v4, .ref p5] (some 1) (some 4))) nsp)
                  have esp : (upd H1 sp (.tup (cutV [.ref p1, v2, v3, v4, .ref p5] (some 1) (some 4)))) sp = some (.tup [v2, v3, v4]) := upd_same
                  generalize upd H1 sp (.tup (cutV [.ref p1, v2, v3, v4, .ref p5] (some 1) (some 4))) = H2 at s2 esp ⊢
                  have r3 : DTs H2 [v2, v3, v4] [b, c, d] := .cons (h2.same s2 _) (.cons (h3.same s2 _) (.cons (h4.same s2 _) .nil))
                  refine ⟨sp, rfl, ⟨_, SqT.of esp⟩, fun D hD => lc_all (f := linkB cs.length 0) (walk_tup (K := K) (a := sp) (xs := [v2, v3, v4])) (fun H' s' => SqT.of (s' _ _ esp)) (fun j H x H' y => y.1) hD rfl (show 3 < 1000 by decide) ?_ fun H3 s3 hb => ⟨_, [b, c, d].map (linkB cs.length 0), rfl, SqL.of hb, _, rfl, ifAll (fun hb => ?_) (fun hb => ?_)⟩⟩
                  · rintro j x d H' Q' s1 ⟨_, hx⟩ hj q'
                    exact ⟨x, rfl, _, rfl, x, d, _, rfl, (r3.get hx hj).same s1 _, q' _ (Same.refl _)⟩
                  · have q2 := q _ (s2.trans s3)
                    rw [hb] at q2
                    exact q2
                  rw [hb] at q
                  simp only [Bool.true_and] at q
                  have s4 := s2.trans s3
                  refine ⟨_, rfl, _, rfl, ⟨_, SqL.of (s4 _ _ e5)⟩, fun D hD => lc_all (f := cellP cs.length) (walk_list (K := K) (a := p5) (xs := cv)) (fun H' s' => SqL.of (s' _ _ (s4 _ _ e5))) (fun j H x H' y => y.1) hD l5.symm (by omega) ?_ fun H5 s5 hb => ⟨_, cs.map (cellP cs.length), rfl, SqL.of hb, by rw [all_id]; exact q _ (s4.trans s5)⟩⟩
                  rintro j x d H' Q' s1 ⟨_, hx⟩ hj q'
                  exact ⟨x, rfl, _, rfl, x, d, _, rfl, (r5.get hx hj).same (s4.trans s1) _, t5 _ (List.mem_of_getElem? hj), q'⟩
              | _ =>
                have q2 := q _ (Same.refl _)
                simp only [formP] at q2
                exact iteT q2
        | _ =>
          have q2 := q _ (Same.refl _)
          simp only [formP] at q2
          exact iteT q2
  | _ => exact iteT (q _ (Same.refl _))
end
end Cb
set_option Elab.async false
set_option linter.all false
set_option maxRecDepth 100000
set_option maxHeartbeats 4000000
namespace Cb
open PySem PySem.Spec PyProof.Rows L2
/-! ### a walk down: what waits, what was found -/
theorem sub_perm {α : Type} [DecidableEq α] : ∀ {F L : List α}, F.Nodup → (∀ x ∈ F, x ∈ L) → ∃ R, L.Perm (F ++ R)
  | [], L, _, _ => ⟨L, List.Perm.refl _⟩
  | a :: F, L, n, s => by
    have n2 := List.nodup_cons.mp n
    have p := List.perm_cons_erase (s a (List.mem_cons_self ..))
    obtain ⟨R, r⟩ := sub_perm (F := F) (L := L.erase a) n2.2 fun x hx => (List.mem_erase_of_ne fun (e : x = a) => n2.1 (e ▸ hx)).mpr (s x (List.mem_cons_of_mem _ hx))
    exact ⟨R, p.trans (r.cons a)⟩
theorem sub_len {α : Type} [DecidableEq α] {F L : List α} (n : F.Nodup) (s : ∀ x ∈ F, x ∈ L) : F.length ≤ L.length := by
  obtain ⟨R, r⟩ := sub_perm n s
  have := r.length_eq
  rw [List.length_append] at this
  omega
theorem sub_eq {α : Type} [DecidableEq α] {F L : List α} (n : F.Nodup) (s : ∀ x ∈ F, x ∈ L) (l : F.length = L.length) : L.Perm F := by
  obtain ⟨R, r⟩ := sub_perm n s
  have := r.length_eq
  rw [List.length_append] at this
  obtain rfl : R = [] := List.eq_nil_of_length_eq_zero (by omega)
  rwa [List.append_nil] at r
def upTo (n : Nat) : List Int := (List.range n).map fun i => 1 + ((i : Nat) : Int)
theorem mem_upTo {n : Nat} {x : Int} : x ∈ upTo n ↔ 1 ≤ x ∧ x ≤ n := by
  unfold upTo
  rw [List.mem_map]
  constructor
  · rintro ⟨i, hi, rfl⟩
    have := List.mem_range.mp hi
    omega
  · rintro ⟨h1, h2⟩
    exact ⟨(x - 1).toNat, List.mem_range.mpr (by omega), by omega⟩
theorem upTo_len (n : Nat) : (upTo n).length = n := by simp [upTo]
theorem upTo_nd (n : Nat) : (upTo n).Nodup := by
  unfold upTo
  refine List.Pairwise.map _ (fun a b (ne : a ≠ b) e => ne (by omega)) List.nodup_range
section
variable (nx : Int → List Int) (W0 : List Int)
def iter : Nat → Option (List Int × List Int)
  | 0 => some (W0, [])
  | k + 1 => match iter k with
    | some (W, F) => match W.getLast? with
      | some x => some (W.dropLast ++ nx x, F ++ [x])
      | none => none
    | none => none
def goodW (n : Nat) : Prop := ∃ k F, iter nx W0 k = some ([], F) ∧ F.Nodup ∧ F.length = n
variable {nx W0}
theorem iter_next {k : Nat} {w F : List Int} {x : Int} (h : iter nx W0 k = some (w ++ [x], F)) : iter nx W0 (k + 1) = some (w ++ nx x, F ++ [x]) := by
  show (match iter nx W0 k with
    | some (W, F) => match W.getLast? with
      | some x => some (W.dropLast ++ nx x, F ++ [x])
      | none => none
    | none => none) = _
  rw [h]
  simp
theorem iter_stop {k : Nat} {F : List Int} (h : iter nx W0 k = some ([], F)) : iter nx W0 (k + 1) = none := by
  show (match iter nx W0 k with
    | some (W, F) => match W.getLast? with
      | some x => some (W.dropLast ++ nx x, F ++ [x])
      | none => none
    | none => none) = _
  rw [h]
  rfl
theorem iter_none {k : Nat} (h : iter nx W0 k = none) : iter nx W0 (k + 1) = none := by
  show (match iter nx W0 k with
    | some (W, F) => match W.getLast? with
      | some x => some (W.dropLast ++ nx x, F ++ [x])
      | none => none
    | none => none) = _
  rw [h]
theorem iter_gone {k : Nat} {F : List Int} (h : iter nx W0 k = some ([], F)) : ∀ j, iter nx W0 (k + 1 + j) = none
  | 0 => iter_stop h
  | j + 1 => iter_none (iter_gone h j)
theorem iter_len : ∀ {k : Nat} {W F : List Int}, iter nx W0 k = some (W, F) → F.length = k
  | 0, W, F, h => by
    have : some (W0, ([] : List Int)) = some (W, F) := h
    have := Option.some.inj this
    rw [← (Prod.mk.inj this).2]
    rfl
  | k + 1, W, F, h => by
    cases hk : iter nx W0 k with
    | none =>
      rw [iter_none hk] at h
      cases h
    | some p =>
      obtain ⟨W1, F1⟩ := p
      have ih := iter_len hk
      cases hW : W1.getLast? with
      | none =>
        obtain rfl : W1 = [] := List.getLast?_eq_none_iff.mp hW
        rw [iter_stop hk] at h
        cases h
      | some x =>
        obtain ⟨Y, e⟩ := List.getLast?_eq_some_iff.mp hW
        rw [e] at hk
        rw [iter_next hk] at h
        have := Option.some.inj h
        rw [← (Prod.mk.inj this).2, List.length_append, ih]
        rfl
theorem iter_pre {k : Nat} {W F : List Int} (h : iter nx W0 k = some (W, F)) : ∀ {j : Nat} {W' F' : List Int}, iter nx W0 (k + j) = some (W', F') → F <+: F'
  | 0, W', F', h' => by
    rw [Nat.add_zero, h] at h'
    rw [(Prod.mk.inj (Option.some.inj h')).2]
    exact List.prefix_refl _
  | j + 1, W', F', h' => by
    cases hk : iter nx W0 (k + j) with
    | none =>
      rw [← Nat.add_assoc, iter_none hk] at h'
      cases h'
    | some p =>
      obtain ⟨W1, F1⟩ := p
      have ih := iter_pre h hk
      cases hW : W1.getLast? with
      | none =>
        obtain rfl : W1 = [] := List.getLast?_eq_none_iff.mp hW
        rw [← Nat.add_assoc, iter_stop hk] at h'
        cases h'
      | some x =>
        obtain ⟨Y, e⟩ := List.getLast?_eq_some_iff.mp hW
        rw [e] at hk
        rw [← Nat.add_assoc, iter_next hk] at h'
        rw [← (Prod.mk.inj (Option.some.inj h')).2]
        exact ih.trans (List.prefix_append ..)
/-- who is good has an end behind each state -/
theorem good_from {n k : Nat} {W F : List Int} (g : goodW nx W0 n) (h : iter nx W0 k = some (W, F)) : ∃ F', F <+: F' ∧ F'.Nodup ∧ F'.length = n ∧ (W = [] → F' = F) ∧ (W ≠ [] → k < n) := by
  obtain ⟨k', F', h', nd, l⟩ := g
  have lk := iter_len h'
  have lk2 := iter_len h
  by_cases hle : k ≤ k'
  · obtain ⟨j, rfl⟩ := Nat.exists_eq_add_of_le hle
    have p := iter_pre h h'
    refine ⟨F', p, nd, l, fun e => ?_, fun ne => ?_⟩
    · subst e
      cases j with
      | zero =>
        rw [Nat.add_zero, h] at h'
        exact ((Prod.mk.inj (Option.some.inj h')).2).symm
      | succ j =>
        have := iter_gone h j
        rw [show k + 1 + j = k + (j + 1) by omega, h'] at this
        cases this
    · cases j with
      | zero =>
        rw [Nat.add_zero, h] at h'
        exact absurd (Prod.mk.inj (Option.some.inj h')).1 ne
      | succ j => omega
  · obtain ⟨j, e⟩ := Nat.exists_eq_add_of_le (show k' + 1 ≤ k by omega)
    have := iter_gone h' j
    rw [← e, h] at this
    cases this
/-- the program's ends -/
theorem good_end {n k : Nat} {F : List Int} (h : iter nx W0 k = some ([], F)) (nd : F.Nodup) : goodW nx W0 n ↔ F.length = n := by
  constructor
  · intro g
    obtain ⟨F', _, _, l, e, _⟩ := good_from g h
    rw [← e rfl]
    exact l
  · intro l
    exact ⟨k, F, h, nd, l⟩
theorem good_again {n k : Nat} {w F : List Int} {x : Int} (h : iter nx W0 k = some (w ++ [x], F)) (m : x ∈ F) : ¬ goodW nx W0 n := by
  intro g
  have h1 := iter_next h
  obtain ⟨F', p, nd, _⟩ := good_from g h1
  obtain ⟨R, rfl⟩ := p
  have := (List.nodup_append.mp nd).1
  have := (List.nodup_append.mp this).2.2 x m x (by simp)
  exact this rfl
/-- the law's ends -/
theorem good_sorted {n k : Nat} {W F ns : List Int} (h : iter nx W0 k = some (W, F)) (out : W = [] ∨ n < F.length) (inn : ∀ x ∈ F, 1 ≤ x ∧ x ≤ n) (p : ns.Perm F) (s : ns.Pairwise (· ≤ ·)) : goodW nx W0 n ↔ ns = upTo n := by
  constructor
  · intro g
    obtain ⟨F', pre, nd, l, e, lt⟩ := good_from g h
    have lk := iter_len h
    have hW : W = [] := by
      rcases out with o | o
      · exact o
      · by_cases ne : W = []
        · exact ne
        · have := lt ne
          omega
    obtain rfl := e hW
    have q := sub_eq nd (L := upTo n) (fun x hx => mem_upTo.mpr (inn x hx)) (by rw [upTo_len, l])
    have s2 : (upTo n).Pairwise (· ≤ ·) := by
      unfold upTo
      refine List.Pairwise.map _ (fun a b (lt : a < b) => by omega) (List.pairwise_lt_range)
    exact List.Perm.eq_of_pairwise (fun a b _ _ h1 h2 => Int.le_antisymm h1 h2) s s2 (p.trans q.symm)
  · intro e
    have q : F.Perm (upTo n) := by
      rw [← e]
      exact p.symm
    have nd : F.Nodup := q.nodup_iff.mpr (upTo_nd n)
    have l : F.length = n := by rw [q.length_eq, upTo_len]
    have hW : W = [] := by
      rcases out with o | o
      · exact o
      · omega
    subst hW
    exact ⟨k, F, h, nd, l⟩
end
end Cb
set_option Elab.async false
set_option linter.all false
set_option maxRecDepth 100000
set_option maxHeartbeats 4000000
namespace Cb
open PySem PySem.Spec PyProof.Rows L2
/-! ### where contents and links lead -/
def ref1 : PyData → Option Int
  | .tuple [.str z, .int i] => if z = "bare" then none else some i
  | _ => none
def refs (ds : List PyData) : List Int := ds.filterMap ref1
def nz (ls : List Int) : List Int := ls.filter fun l => !decide (l = 0)
theorem refs_take {ds : List PyData} {j : Nat} {d : PyData} (h : ds[j]? = some d) : refs (ds.take (j + 1)) = refs (ds.take j) ++ (match ref1 d with | some i => [i] | none => []) := by
  unfold refs
  rw [List.take_add_one, h, List.filterMap_append]
  congr 1
  show List.filterMap ref1 [d] = _
  cases h : ref1 d with
  | none => rw [List.filterMap_cons_none h]; rfl
  | some i => rw [List.filterMap_cons_some h]; rfl
theorem cont_cases {inner : Bool} {n : Int} {d : PyData} (h : contP inner n d = true) : (isTu d = false ∧ ref1 d = none) ∨ (∃ x, d = .tuple [.str "bare", x] ∧ ref1 d = none) ∨
    ∃ z i, d = .tuple [.str z, .int i] ∧ ¬ z = "bare" ∧ ref1 d = some i ∧ 1 ≤ i ∧ i ≤ n ∧ (inner = true → z = "cell") := by
  match d, h with
  | .none, _ => exact .inl ⟨rfl, rfl⟩
  | .bool _, _ => exact .inl ⟨rfl, rfl⟩
  | .int _, _ => exact .inl ⟨rfl, rfl⟩
  | .tuple [.str z, x], h =>
    have h2 : (if z = "bare" then isWord x else (decide (z = "cell") || (!inner && decide (z = "hollow"))) && linkB n 1 x) = true := h
    by_cases e : z = "bare"
    · subst e
      refine .inr (.inl ⟨x, rfl, ?_⟩)
      cases x <;> rfl
    · rw [if_neg e] at h2
      simp only [Bool.and_eq_true] at h2
      match x, h2 with
      | .int i, ⟨h3, h4⟩ =>
        have h5 : 1 ≤ i ∧ i ≤ n := by simpa [linkB] using h4
        refine .inr (.inr ⟨z, i, rfl, e, by show (if z = "bare" then none else some i) = some i; rw [if_neg e], h5.1, h5.2, fun hi => ?_⟩)
        subst hi
        simpa using h3
theorem DTs.all1 {H : Hp} {xs : List V} {ds : List PyData} {j : Nat} {x : V} (r : DTs H xs ds) (hx : xs[j]? = some x) : ∃ d, ds[j]? = some d ∧ DT H x d := by
  have hi := (List.getElem?_eq_some_iff.mp hx).1
  have hd : ds[j]? = some (ds[j]'(by rw [← r.length]; exact hi)) := List.getElem?_eq_getElem _
  exact ⟨_, hd, r.get hx hd⟩
def tTruK (K : PySem.W.Frag) (ta : TE) : TT := fun σ H Q => ta σ H fun x H' => ∃ k, TruV K x H' k ∧ Q k H'
abbrev s_cells_from : Stmt := topS 19
abbrev NCf : List Str := ["contents", "links", "found", "content", "link"]
theorem sc_cells_from : FnScope NCf ["contents", "links"] (defScope s_cells_from) := ⟨rfl, rfl, rfl, by decide +kernel, rfl, by decide +kernel, by decide +kernel⟩
structure TFor (K : PySem.W.Frag) (w : World) (mg : Str → Option Value) : Prop where
  tp : TPic K w mg
  d_cells_from : Has K mg "cells_from" s_cells_from ["contents", "links"]
theorem nz_take {ls : List Int} {j : Nat} {l : Int} (h : ls[j]? = some l) : nz (ls.take (j + 1)) = nz (ls.take j) ++ (if l = 0 then [] else [l]) := by
  unfold nz
  rw [List.take_add_one, h, List.filter_append]
  congr 1
  by_cases e : l = 0 <;> simp [e]
section
variable {P : Program} {w : World} {K : PySem.W.Frag} {mg : Str → Option Value} {base : Heap}
/-- one turn of the first walk -/
def sp_cellsA : Sp := fun vs H Q _ => ∃ (a b : Addr) (xs : List V) (ds : List PyData) (ls : List Int) (inner : Bool) (n : Int), vs = [.ref a, .ref b] ∧ H a = some (.lst xs) ∧ DTs H xs ds ∧ (∀ d ∈ ds, contP inner n d = true) ∧ H b = some (.tup (ls.map V.int)) ∧ ds.length < 900 ∧ ls.length < 900 ∧
  ∀ (p : Addr) (H' : Hp), H p = none → Same H H' → H' p = some (.lst ((refs ds ++ nz ls).map V.int)) → Q (.ref p) H'
def sp_cellsB : Sp := fun vs H Q _ => ∃ (a b : Addr) (xs : List V) (ds : List PyData) (ls : List Int) (inner : Bool) (n : Int), vs = [.ref a, .ref b] ∧ H a = some (.tup xs) ∧ DTs H xs ds ∧ (∀ d ∈ ds, contP inner n d = true) ∧ H b = some (.lst (ls.map V.int)) ∧ ds.length < 900 ∧ ls.length < 900 ∧
  ∀ (p : Addr) (H' : Hp), H p = none → Same H H' → H' p = some (.lst ((refs ds ++ nz ls).map V.int)) → Q (.ref p) H'
theorem c_cells_fromA (T : TFor K w mg) : Says P w K mg base 1 "cells_from" ["contents", "links"] sp_cellsA := by
  refine says T.d_cells_from sc_cells_from (fun vs H Q E h => ?_) (fun f cdv A outer s H vs Q E hr h => ?_)
  · obtain ⟨_, _, _, _, _, _, _, rfl, _⟩ := h; rfl
  refine ⟨_, (pss_cons (ps_setLc (i := 2) (own := [("content", 3)]) (g := gName 3) rfl sc_cells_from.nd rfl rfl (sw_true rfl rfl rfl (by decide +kernel)) (pi_list (pv 0)) (blkOk_by (N := NCf) (sc := defScope s_cells_from) (own := [("content", 3)]) (by decide +kernel)) (fun _ _ _ _ _ => pg_name (i := 3) sc_cells_from.nd rfl (Or.inl rfl)) (fun _ _ _ _ _ => pts_one (PW.pt (pw_and (pt_val (pe_callB (id := "isinstance") (r := rIsi K) call_isi (by rfl) T.tp.tn.tw.b_isinstance (by decide +kernel) (pa_cons (pv 3) (pa_cons (pe_bltn (v := .ty "tuple") (by rfl) T.tp.tn.b_tuple (by decide +kernel) rfl) pa_nil)))) (pw_and1 (pt_cmpR op_ne (pe_ix (r := rIxT K) ix_tup (pv 3) pe_int (fun _ _ => rfl)) pe_str (nomark _)))))) (fun _ _ _ _ _ => (pe_ix (r := rIxT K) ix_tup (pv 3) pe_int (fun _ _ => rfl))))
    (pss_one (ps_ret (pe_op op_cat (pv 2) (pe_lc (own := [("link", 4)]) (g := gName 4) rfl sc_cells_from.nd (pi_tup (pv 1)) (blkOk_by (N := NCf) (sc := defScope s_cells_from) (own := [("link", 4)]) (by decide +kernel)) (fun _ _ _ _ _ => pg_name (i := 4) sc_cells_from.nd rfl (Or.inl rfl)) (fun _ _ _ _ _ => pts_one (show PT _ _ (tTruK K (tVar 4)) from pt_truth (pv 4) (by intro _; rfl))) (fun _ _ _ _ _ => (pv 4))))))), ?_⟩
  obtain ⟨a, b, xs, ds, ls, inner, n, rfl, ha, da, all, hb, l9, ll, q⟩ := h
  have lx := da.length
  refine ⟨_, rfl, _, rfl, ⟨_, SqL.of ha⟩, fun D hD => ?_⟩
  refine lc_it (walk_list (K := K) (a := a) (xs := xs)) (fun j H' => Same H H' ∧ H' D = some (.lst ((refs (ds.take j)).map V.int))) ⟨same_new hD, upd_same⟩ (fun i H' _ z => SqL.of (z.1 _ _ ha)) ?_ ?_
  · rintro j x H2 H3 hj ⟨s2, hd⟩ ⟨rfl, hx⟩
    obtain ⟨d, hdj, dx⟩ := da.all1 hx
    have rt := refs_take hdj
    have lr : (refs (ds.take j)).length ≤ j := Nat.le_trans (List.length_filterMap_le ..) (by rw [List.length_take]; omega)
    refine ⟨rfl, ?_⟩
    refine ⟨_, rfl, _, _, _, _, _, rfl, .ty _, (dx.same s2 _).ty, kit_ty (kit_t d), _, rfl, ?_⟩
    rcases cont_cases (all _ (List.mem_of_getElem? hdj)) with ⟨e1, e2⟩ | ⟨y, rfl, e2⟩ | ⟨z, i, rfl, nb, e2, _⟩
    · rw [e1]
      refine iteF (iteF ⟨s2, ?_⟩)
      rw [hd, rt, e2, List.append_nil]
    · cases dx with
      | @tup t ys _ et rt' =>
        cases rt' with
        | cons h1 h2 =>
          cases h1
          refine iteT ⟨_, rfl, t, _, 0, _, rfl, rfl, SqT.of (s2 _ _ et), atI_nat (j := 0) rfl, rfl, _, rfl, neN ⟨s2, ?_⟩⟩
          rw [hd, rt, e2, List.append_nil]
    · cases dx with
      | @tup t ys _ et rt' =>
        cases rt' with
        | cons h1 h2 =>
          cases h1
          cases h2 with
          | cons h3 h4 =>
            cases h3
            cases h4
            refine iteT ⟨_, rfl, t, _, 0, _, rfl, rfl, SqT.of (s2 _ _ et), rfl, rfl, _, rfl, ?_⟩
            rw [decide_eq_false fun e => nb (V.str.inj e)]
            refine iteT ⟨_, rfl, t, _, 1, _, rfl, rfl, SqT.of (s2 _ _ et), rfl, _, hd, ?_, ?_, ?_⟩
            · rw [List.length_map]
              exact small1000' (by omega)
            · intro b' o e
              rw [upd_ne (ne_of_none e hD)]
              exact s2 _ _ e
            · rw [upd_same, rt, e2, List.map_append]
              rfl
  · rintro H2 ⟨s2, hd⟩
    rw [lx, List.take_length] at hd
    refine ⟨_, rfl, _, rfl, _, rfl, ⟨_, SqT.of (s2 _ _ hb)⟩, fun D2 hD2 => ?_⟩
    have lr : (refs ds).length ≤ ds.length := List.length_filterMap_le ..
    refine lc_it (walk_tup (K := K) (a := b) (xs := ls.map V.int)) (fun j H' => Same H2 H' ∧ H' D2 = some (.lst ((nz (ls.take j)).map V.int))) ⟨same_new hD2, upd_same⟩ (fun i H' _ z => SqT.of (z.1 _ _ (s2 _ _ hb))) ?_ ?_
    · rintro j x H3 H4 hj ⟨s3, hd2⟩ ⟨rfl, hx⟩
      rw [List.length_map] at hj
      have hlj : ls[j]? = some ls[j] := List.getElem?_eq_getElem hj
      rw [List.getElem?_map, hlj] at hx
      obtain rfl : V.int ls[j] = x := Option.some.inj hx
      generalize ls[j] = l at hlj
      have nt := nz_take hlj
      have ln : (nz (ls.take j)).length ≤ j := Nat.le_trans (List.length_filter_le ..) (by rw [List.length_take]; omega)
      refine ⟨rfl, ?_⟩
      refine ⟨_, rfl, (l != 0), rfl, ?_⟩
      by_cases e : l = 0
      · subst e
        refine iteF ⟨s3, ?_⟩
        rw [hd2, nt, if_pos rfl, List.append_nil]
      · rw [show (l != 0) = true by simpa using e]
        refine iteT ⟨_, rfl, _, hd2, ?_, ?_, ?_⟩
        · rw [List.length_map]
          exact small1000' (by omega)
        · intro b' o e
          rw [upd_ne (ne_of_none e hD2)]
          exact s3 _ _ e
        · rw [upd_same, nt, if_neg e, List.map_append]
          rfl
    · rintro H3 ⟨s3, hd2⟩
      rw [List.length_map, List.take_length] at hd2
      refine ⟨D, D2, _, _, rfl, rfl, s3 _ _ hd, hd2, ?_, fun p np => ?_⟩
      · rw [List.length_map, List.length_map]
        have : (nz ls).length ≤ ls.length := List.length_filter_le ..
        exact Nat.le_of_lt (small1000' (by omega))
      · refine q p _ ((s2.trans s3).free np) ((s2.trans s3).trans (same_new np)) ?_
        rw [upd_same, List.map_append]
theorem c_cells_fromB (T : TFor K w mg) : Says P w K mg base 1 "cells_from" ["contents", "links"] sp_cellsB := by
  refine says T.d_cells_from sc_cells_from (fun vs H Q E h => ?_) (fun f cdv A outer s H vs Q E hr h => ?_)
  · obtain ⟨_, _, _, _, _, _, _, rfl, _⟩ := h; rfl
  refine ⟨_, (pss_cons (ps_setLc (i := 2) (own := [("content", 3)]) (g := gName 3) rfl sc_cells_from.nd rfl rfl (sw_true rfl rfl rfl (by decide +kernel)) (pi_tup (pv 0)) (blkOk_by (N := NCf) (sc := defScope s_cells_from) (own := [("content", 3)]) (by decide +kernel)) (fun _ _ _ _ _ => pg_name (i := 3) sc_cells_from.nd rfl (Or.inl rfl)) (fun _ _ _ _ _ => pts_one (PW.pt (pw_and (pt_val (pe_callB (id := "isinstance") (r := rIsi K) call_isi (by rfl) T.tp.tn.tw.b_isinstance (by decide +kernel) (pa_cons (pv 3) (pa_cons (pe_bltn (v := .ty "tuple") (by rfl) T.tp.tn.b_tuple (by decide +kernel) rfl) pa_nil)))) (pw_and1 (pt_cmpR op_ne (pe_ix (r := rIxT K) ix_tup (pv 3) pe_int (fun _ _ => rfl)) pe_str (nomark _)))))) (fun _ _ _ _ _ => (pe_ix (r := rIxT K) ix_tup (pv 3) pe_int (fun _ _ => rfl))))
    (pss_one (ps_ret (pe_op op_cat (pv 2) (pe_lc (own := [("link", 4)]) (g := gName 4) rfl sc_cells_from.nd (pi_list (pv 1)) (blkOk_by (N := NCf) (sc := defScope s_cells_from) (own := [("link", 4)]) (by decide +kernel)) (fun _ _ _ _ _ => pg_name (i := 4) sc_cells_from.nd rfl (Or.inl rfl)) (fun _ _ _ _ _ => pts_one (show PT _ _ (tTruK K (tVar 4)) from pt_truth (pv 4) (by intro _; rfl))) (fun _ _ _ _ _ => (pv 4))))))), ?_⟩
  obtain ⟨a, b, xs, ds, ls, inner, n, rfl, ha, da, all, hb, l9, ll, q⟩ := h
  have lx := da.length
  refine ⟨_, rfl, _, rfl, ⟨_, SqT.of ha⟩, fun D hD => ?_⟩
  refine lc_it (walk_tup (K := K) (a := a) (xs := xs)) (fun j H' => Same H H' ∧ H' D = some (.lst ((refs (ds.take j)).map V.int))) ⟨same_new hD, upd_same⟩ (fun i H' _ z => SqT.of (z.1 _ _ ha)) ?_ ?_
  · rintro j x H2 H3 hj ⟨s2, hd⟩ ⟨rfl, hx⟩
    obtain ⟨d, hdj, dx⟩ := da.all1 hx
    have rt := refs_take hdj
    have lr : (refs (ds.take j)).length ≤ j := Nat.le_trans (List.length_filterMap_le ..) (by rw [List.length_take]; omega)
    refine ⟨rfl, ?_⟩
    refine ⟨_, rfl, _, _, _, _, _, rfl, .ty _, (dx.same s2 _).ty, kit_ty (kit_t d), _, rfl, ?_⟩
    rcases cont_cases (all _ (List.mem_of_getElem? hdj)) with ⟨e1, e2⟩ | ⟨y, rfl, e2⟩ | ⟨z, i, rfl, nb, e2, _⟩
    · rw [e1]
      refine iteF (iteF ⟨s2, ?_⟩)
      rw [hd, rt, e2, List.append_nil]
    · cases dx with
      | @tup t ys _ et rt' =>
        cases rt' with
        | cons h1 h2 =>
          cases h1
          refine iteT ⟨_, rfl, t, _, 0, _, rfl, rfl, SqT.of (s2 _ _ et), atI_nat (j := 0) rfl, rfl, _, rfl, neN ⟨s2, ?_⟩⟩
          rw [hd, rt, e2, List.append_nil]
    · cases dx with
      | @tup t ys _ et rt' =>
        cases rt' with
        | cons h1 h2 =>
          cases h1
          cases h2 with
          | cons h3 h4 =>
            cases h3
            cases h4
            refine iteT ⟨_, rfl, t, _, 0, _, rfl, rfl, SqT.of (s2 _ _ et), rfl, rfl, _, rfl, ?_⟩
            rw [decide_eq_false fun e => nb (V.str.inj e)]
            refine iteT ⟨_, rfl, t, _, 1, _, rfl, rfl, SqT.of (s2 _ _ et), rfl, _, hd, ?_, ?_, ?_⟩
            · rw [List.length_map]
              exact small1000' (by omega)
            · intro b' o e
              rw [upd_ne (ne_of_none e hD)]
              exact s2 _ _ e
            · rw [upd_same, rt, e2, List.map_append]
              rfl
  · rintro H2 ⟨s2, hd⟩
    rw [lx, List.take_length] at hd
    refine ⟨_, rfl, _, rfl, _, rfl, ⟨_, SqL.of (s2 _ _ hb)⟩, fun D2 hD2 => ?_⟩
    have lr : (refs ds).length ≤ ds.length := List.length_filterMap_le ..
    refine lc_it (walk_list (K := K) (a := b) (xs := ls.map V.int)) (fun j H' => Same H2 H' ∧ H' D2 = some (.lst ((nz (ls.take j)).map V.int))) ⟨same_new hD2, upd_same⟩ (fun i H' _ z => SqL.of (z.1 _ _ (s2 _ _ hb))) ?_ ?_
    · rintro j x H3 H4 hj ⟨s3, hd2⟩ ⟨rfl, hx⟩
      rw [List.length_map] at hj
      have hlj : ls[j]? = some ls[j] := List.getElem?_eq_getElem hj
      rw [List.getElem?_map, hlj] at hx
      obtain rfl : V.int ls[j] = x := Option.some.inj hx
      generalize ls[j] = l at hlj
      have nt := nz_take hlj
      have ln : (nz (ls.take j)).length ≤ j := Nat.le_trans (List.length_filter_le ..) (by rw [List.length_take]; omega)
      refine ⟨rfl, ?_⟩
      refine ⟨_, rfl, (l != 0), rfl, ?_⟩
      by_cases e : l = 0
      · subst e
        refine iteF ⟨s3, ?_⟩
        rw [hd2, nt, if_pos rfl, List.append_nil]
      · rw [show (l != 0) = true by simpa using e]
        refine iteT ⟨_, rfl, _, hd2, ?_, ?_, ?_⟩
        · rw [List.length_map]
          exact small1000' (by omega)
        · intro b' o e
          rw [upd_ne (ne_of_none e hD2)]
          exact s3 _ _ e
        · rw [upd_same, nt, if_neg e, List.map_append]
          rfl
    · rintro H3 ⟨s3, hd2⟩
      rw [List.length_map, List.take_length] at hd2
      refine ⟨D, D2, _, _, rfl, rfl, s3 _ _ hd, hd2, ?_, fun p np => ?_⟩
      · rw [List.length_map, List.length_map]
        have : (nz ls).length ≤ ls.length := List.length_filter_le ..
        exact Nat.le_of_lt (small1000' (by omega))
      · refine q p _ ((s2.trans s3).free np) ((s2.trans s3).trans (same_new np)) ?_
        rw [upd_same, List.map_append]
end
end Cb
set_option Elab.async false
set_option linter.all false
set_option maxRecDepth 100000
set_option maxHeartbeats 4000000
namespace Cb
open PySem PySem.Spec PyProof.Rows L2
/-! ### is_forest -/
def cellsD : PyData → List PyData
  | .tuple [_, _, _, _, .list cs] => cs
  | _ => []
def startD : PyData → List Int
  | .tuple [.list rs, .int f, .int h, .int l, .list _] => refs rs ++ nz [f, h, l]
  | _ => []
def nextC : PyData → List Int
  | .tuple [_, .tuple xs, .int l] => refs xs ++ nz [l]
  | _ => []
def nextD (d : PyData) (x : Int) : List Int := match (cellsD d)[(x - 1).toNat]? with
  | some c => nextC c
  | none => []
open Classical in
noncomputable def forestB (d : PyData) : Bool := formP d && decide (goodW (nextD d) (startD d) (cellsD d).length)
theorem link_inv {n low : Int} {d : PyData} (h : linkB n low d = true) : ∃ i, d = .int i ∧ low ≤ i ∧ i ≤ n := by
  cases d with
  | int i => exact ⟨i, rfl, by simpa [linkB] using h⟩
  | _ => simp [linkB] at h
theorem form_inv {d : PyData} (h : formP d = true) : ∃ rs f hh l cs, d = .tuple [.list rs, .int f, .int hh, .int l, .list cs] ∧ rs.length = 64 ∧ (∀ x ∈ rs, contP false cs.length x = true) ∧ ((0 ≤ f ∧ f ≤ cs.length) ∧ (0 ≤ hh ∧ hh ≤ cs.length) ∧ 0 ≤ l ∧ l ≤ cs.length) ∧ ∀ c ∈ cs, cellP cs.length c = true := by
  match d, h with
  | .tuple [.list rs, a, b, c, .list cs], h =>
    simp only [formP, List.all_cons, List.all_nil, Bool.and_true, Bool.and_eq_true, decide_eq_true_eq, List.all_eq_true] at h
    obtain ⟨⟨⟨h1, h2⟩, h3, h4, h5⟩, h6⟩ := h
    obtain ⟨i, rfl, hi⟩ := link_inv h3
    obtain ⟨j, rfl, hj⟩ := link_inv h4
    obtain ⟨l, rfl, hl⟩ := link_inv h5
    exact ⟨rs, i, j, l, cs, rfl, h1, h2, ⟨hi, hj, hl⟩, h6⟩
theorem cell_inv {n : Int} {c : PyData} (h : cellP n c = true) : ∃ m xs l, c = .tuple [m, .tuple xs, .int l] ∧ 0 ≤ l ∧ l ≤ n ∧ xs.length ≤ 4 ∧ ∀ x ∈ xs, contP true n x = true := by
  match c, h with
  | .tuple [m, .tuple xs, l], h =>
    simp only [cellP, Bool.and_eq_true, decide_eq_true_eq, List.all_eq_true] at h
    obtain ⟨i, rfl, hi⟩ := link_inv h.1
    exact ⟨m, xs, i, rfl, hi.1, hi.2, h.2.1, h.2.2⟩
theorem refs_in {inner : Bool} {n : Int} {ds : List PyData} (h : ∀ d ∈ ds, contP inner n d = true) : ∀ i ∈ refs ds, 1 ≤ i ∧ i ≤ n := by
  intro i hi
  obtain ⟨d, hd, e⟩ := List.mem_filterMap.mp hi
  rcases cont_cases (h d hd) with ⟨_, e2⟩ | ⟨_, _, e2⟩ | ⟨_, j, _, _, e2, h1, h2, _⟩
  · rw [e2] at e
    cases e
  · rw [e2] at e
    cases e
  · rw [e2] at e
    obtain rfl := Option.some.inj e
    exact ⟨h1, h2⟩
theorem nz_in {n : Int} {ls : List Int} (h : ∀ l ∈ ls, 0 ≤ l ∧ l ≤ n) : ∀ i ∈ nz ls, 1 ≤ i ∧ i ≤ n := by
  intro i hi
  obtain ⟨h1, h2⟩ := List.mem_filter.mp hi
  have := h i h1
  have h3 : ¬ i = 0 := by simpa using h2
  omega
theorem refs_len (ds : List PyData) : (refs ds).length ≤ ds.length := List.length_filterMap_le ..
theorem nz_len (ls : List Int) : (nz ls).length ≤ ls.length := List.length_filter_le ..
def seenK (F : List Int) : List (Key × V) := F.map fun x => (Sum.inl x, .bl true)
theorem seen_val {x : Int} : ∀ F : List Int, (valV (seenK F) (Sum.inl x)).isSome = decide (x ∈ F)
  | [] => rfl
  | f :: F => by
    show (valV (((Sum.inl f : Key), V.bl true) :: seenK F) (Sum.inl x)).isSome = _
    by_cases e : f = x
    · rw [valV_pos (congrArg Sum.inl e)]
      simp [e]
    · rw [valV_neg fun z => e (Sum.inl.inj z), seen_val F]
      simp [Ne.symm e]
theorem putK_new {kvs : List (Key × V)} {k : Key} {v : V} (h : k ∉ kvs.map (·.1)) : putK kvs k v = kvs ++ [(k, v)] := by
  unfold putK
  rw [if_neg]
  intro z
  obtain ⟨kv, hm, e⟩ := List.any_eq_true.mp z
  exact h (List.mem_map.mpr ⟨kv, hm, of_decide_eq_true e⟩)
theorem seen_put {x : Int} {F : List Int} (h : x ∉ F) : putK (seenK F) (Sum.inl x) (.bl true) = seenK (F ++ [x]) := by
  rw [putK_new, seenK, seenK, List.map_append]
  · rfl
  · intro z
    rw [seenK, List.map_map] at z
    obtain ⟨y, hy, e⟩ := List.mem_map.mp z
    exact h (Sum.inl.inj e ▸ hy)
abbrev s_is_forest : Stmt := topS 20
abbrev NFo : List Str := ["picture", "cells", "seen", "waiting", "number", "_", "contents", "link"]
theorem sc_is_forest : FnScope NFo ["picture"] (defScope s_is_forest) := ⟨rfl, rfl, rfl, by decide +kernel, rfl, by decide +kernel, by decide +kernel⟩
structure TFst (K : PySem.W.Frag) (w : World) (mg : Str → Option Value) : Prop where
  tf : TFor K w mg
  d_is_forest : Has K mg "is_forest" s_is_forest ["picture"]
  k_is_forest : HasK K mg "is_forest" s_is_forest ["picture"] ["picture"] (fun l => l)
/-- what stands in the loop -/
def WFo (d : PyData) (v : V) (c : Addr) (H : Hp) (m : Nat) (σ : L2.St) (H' : Hp) : Prop := ∃ (x4 x5 x6 x7 : Option V) (S W : Addr) (k : Nat) (Wl F : List Int), σ = [some v, some (.ref c), some (.ref S), some (.ref W), x4, x5, x6, x7] ∧ m = (cellsD d).length + 1 - F.length ∧ Same H H' ∧ H W = none ∧ H S = none ∧ W ≠ S ∧
  H' W = some (.lst (Wl.map V.int)) ∧ H' S = some (.dK (seenK F)) ∧ iter (nextD d) (startD d) k = some (Wl, F) ∧ F.Nodup ∧ (∀ x ∈ Wl, 1 ≤ x ∧ x ≤ (cellsD d).length) ∧ (∀ x ∈ F, 1 ≤ x ∧ x ≤ (cellsD d).length) ∧ Wl.length ≤ 70 + 5 * F.length
section
variable {P : Program} {w : World} {K : PySem.W.Frag} {mg : Str → Option Value} {base : Heap}
def sp_forest : Sp := fun vs H Q _ => ∃ (v : V) (d : PyData), vs = [v] ∧ DT H v d ∧ tpic d ∧ ∀ H', Same H H' → Q (.bl (forestB d)) H'
theorem b_is_forest (T : TFst K w mg) : Body P w K mg base 6 "is_forest" s_is_forest NFo sp_forest := by
  intro f cdv A outer st H vs Q E hr h
  refine ⟨_, (pss_cons (ps_if (pt_not (pt_val (pe_s (c_is_picture_form T.tf.tp) hr (pa_cons (pv 0) pa_nil))))
        (pss_one (ps_ret pe_bl))
        pss_nil)
    (pss_cons (ps_par (i := 1) (j := 2) rfl sc_is_forest.nd rfl rfl (by decide) rfl rfl (pa_cons (pe_ix ix_tup (pv 0) pe_int (fun _ _ => rfl)) (pa_cons pe_dnewK pa_nil)) rfl)
    (pss_cons (ps_set (i := 3) sc_is_forest.nd rfl (.inl rfl) (pe_s (c_cells_fromA T.tf) hr (pa_cons (pe_ix ix_tup (pv 0) pe_int (fun _ _ => rfl)) (pa_cons (pe_slice sl_tup (pv 0) (po_some pe_int) (po_some pe_int)) pa_nil))))
    (pss_cons (ps_while PassesOwn.never (pt_truth (pv 3) (fun _ => rfl))
        (pss_cons (ps_set (i := 4) sc_is_forest.nd rfl (.inl rfl) (pe_bm0 PySem.F.plainAttrs_list PySem.F.slot_list_pop PySem.F.type_list_pop mt_pop (pv 3)))
        (pss_cons (ps_if (pt_cmp (pc_din (hu_of hr) (pv 4) (pv 2)) (by rfl))
            (pss_one (ps_ret pe_bl))
            pss_nil)
        (pss_cons (ps_dput (hu_of hr) (pv 2) (pv 4) pe_bl rfl)
        (pss_cons (ps_asg (pe_ix ix_list (pv 1) (pe_op op_sub (pv 4) pe_int) (fun _ _ => rfl)) (pg_tup rfl (pgs_cons (pg_name (i := 5) sc_is_forest.nd rfl (.inl rfl)) (pgs_cons (pg_name (i := 6) sc_is_forest.nd rfl (.inl rfl)) (pgs_cons (pg_name (i := 7) sc_is_forest.nd rfl (.inl rfl)) pgs_nil)))))
        (pss_one (ps_expr (pe_bm PySem.F.plainAttrs_list PySem.F.slot_list_extend PySem.F.type_list_extend mt_extend (pv 3) (pa_cons (pe_s (c_cells_fromB T.tf) hr (pa_cons (pv 6) (pa_cons (pe_lst (pa_cons (pv 7) pa_nil)) pa_nil))) pa_nil)))))))))
    (pss_one (ps_ret (pe_cmpR op_eq (pe_callB call_lenD (by rfl) T.tf.tp.tn.tw.b_len (by decide +kernel) (pa_cons (pv 2) pa_nil)) (pe_callB call_len_seq (by rfl) T.tf.tp.tn.tw.b_len (by decide +kernel) (pa_cons (pv 1) pa_nil)) (nomark _)))))))), ?_⟩
  obtain ⟨v, d, rfl, hd, ht, q⟩ := h
  refine ⟨_, rfl, v, d, rfl, hd, ht, fun H1 s1 => ⟨_, rfl, ifNo (fun hb => ?_) (fun hb => ?_)⟩⟩
  · have := q _ s1
    rwa [show forestB d = false by unfold forestB; rw [hb]; rfl] at this
  obtain ⟨rs, fr, hh, l, cs, rfl, l64, all, ⟨b1, b2, b3⟩, allc⟩ := form_inv hb
  obtain ⟨t1, t5⟩ := ht _ _ _ _ _ rfl
  obtain ⟨m1, t1⟩ := t1 _ rfl
  obtain ⟨m5, t5⟩ := t5 _ rfl
  have hd1 := hd.same s1 _
  have q1 : ∀ H', Same H1 H' → Q (.bl (forestB (.tuple [.list rs, .int fr, .int hh, .int l, .list cs]))) H' := fun H' z => q _ (s1.trans z)
  have ef : forestB (.tuple [.list rs, .int fr, .int hh, .int l, .list cs]) = @decide (goodW (nextD (.tuple [.list rs, .int fr, .int hh, .int l, .list cs])) (startD (.tuple [.list rs, .int fr, .int hh, .int l, .list cs])) cs.length) (Classical.propDecidable _) := by
    unfold forestB
    rw [hb, Bool.true_and]
    rfl
  rw [ef] at q1
  clear q hd s1 ef
  have estart : startD (.tuple [.list rs, .int fr, .int hh, .int l, .list cs]) = refs rs ++ nz [fr, hh, l] := rfl
  cases hd1 with
  | @tup p xs _ e r =>
  obtain ⟨v1, v2, v3, v4, v5, a1, a2, a3, a4, a5, rfl, ea, h1, h2, h3, h4, h5⟩ := r.five rfl
  simp only [List.cons.injEq, and_true] at ea
  obtain ⟨rfl, rfl, rfl, rfl, rfl⟩ := ea
  cases h2
  cases h3
  cases h4
  cases h1 with
  | @lst pr rv _ er rr =>
  cases h5 with
  | @lst pc cv _ ec rc =>
  have lc := rc.length
  refine ⟨_, rfl, p, _, _, _, rfl, rfl, SqT.of e, rfl, fun S nS => ⟨_, _, rfl, ?_⟩⟩
  have s2 := same_new (o := .dK []) nS
  have hS2 : (upd H1 S (.dK [])) S = some (.dK []) := upd_same
  have e2 := s2 _ _ e
  have er2 := s2 _ _ er
  have rr2 := rr.same s2 _
  generalize upd H1 S (.dK []) = H2 at s2 hS2 e2 er2 rr2 ⊢
  refine ⟨_, rfl, p, _, _, _, rfl, rfl, SqT.of e2, rfl, _, rfl, 1, rfl, 4, rfl, p, _, rfl, SqT.of e2, (fun z => absurd (show HT.sIx 5 0 (some 1) = 0 from z.1) (by decide)), fun sp nsp => ?_⟩
  have s3 := same_new (o := .tup (cutV [.ref pr, .int fr, .int hh, .int l, .ref pc] (some 1) (some 4))) nsp
  have esp : (upd H2 sp (.tup (cutV [.ref pr, .int fr, .int hh, .int l, .ref pc] (some 1) (some 4)))) sp = some (.tup (([fr, hh, l] : List Int).map V.int)) := upd_same
  have hS3 := s3 _ _ hS2
  generalize upd H2 sp (.tup (cutV [.ref pr, .int fr, .int hh, .int l, .ref pc] (some 1) (some 4))) = H3 at s3 esp hS3 ⊢
  refine ⟨pr, sp, rv, rs, [fr, hh, l], false, (cs.length : Int), rfl, s3 _ _ er2, rr2.same s3 _, all, esp, by omega, (show 3 < 900 by decide), fun W H4 nW s4 hW => ?_⟩
  have sA := (s2.trans s3).trans s4
  have nWS : W ≠ S := (ne_of_none hS3 nW).symm
  have sin : ∀ x ∈ refs rs ++ nz [fr, hh, l], 1 ≤ x ∧ x ≤ (cs.length : Int) := fun x hx => (List.mem_append.mp hx).elim (refs_in all x) (nz_in (fun y hy => by
    simp only [List.mem_cons, List.not_mem_nil, or_false] at hy
    rcases hy with rfl | rfl | rfl
    · exact b1
    · exact b2
    · exact b3) x)
  have slen : (refs rs ++ nz [fr, hh, l]).length ≤ 70 := by
    have := refs_len rs
    have h2 := nz_len [fr, hh, l]
    rw [List.length_append]
    simp only [List.length_cons, List.length_nil] at h2
    omega
  refine ⟨WFo (.tuple [.list rs, .int fr, .int hh, .int l, .list cs]) (.ref p) pc H1, ⟨_, none, none, none, none, S, W, 0, refs rs ++ nz [fr, hh, l], [], rfl, rfl, sA, (s2.trans s3).free nW, nS, nWS, hW, s4 _ _ hS3, rfl, List.nodup_nil, sin, fun x hx => (by cases hx), slen⟩, ?_⟩
  clear hW s4 hS3 esp nsp s3 e2 er2 rr2 hS2 s2 sA sin slen nS nW nWS
  rintro m σ H5 ⟨x4, x5, x6, x7, S', W', k, Wl, F, rfl, rfl, s5, nW, nS, nWS, hW, hS, it, nd, inW, inF, lW⟩
  have inF' : ∀ x ∈ F, x ∈ upTo cs.length := fun x hx => mem_upTo.mpr (inF x hx)
  have lF : F.length ≤ cs.length := by
    have := sub_len nd inF'
    rwa [upTo_len] at this
  refine ⟨_, rfl, _, .inl ⟨_, SqL.of hW, rfl⟩, ?_⟩
  by_cases hWl : Wl = []
  · subst hWl
    refine iteF ⟨_, rfl, S', _, rfl, hS, _, rfl, pc, cv, rfl, .inl (SqL.of (s5 _ _ ec)), rfl, ?_⟩
    have q2 := q1 _ s5
    have ge := good_end (n := cs.length) it nd
    have e1 : decide (V.int (((seenK F).length : Nat) : Int) = V.int ((cv.length : Nat) : Int)) = @decide (goodW (nextD (.tuple [.list rs, .int fr, .int hh, .int l, .list cs])) (startD (.tuple [.list rs, .int fr, .int hh, .int l, .list cs])) cs.length) (Classical.propDecidable _) := by
      rw [lc, show (seenK F).length = F.length from List.length_map ..]
      by_cases g : F.length = cs.length
      · rw [decide_eq_true (by rw [g]), @decide_eq_true _ (Classical.propDecidable _) (ge.mpr g)]
      · rw [decide_eq_false (fun z => g (by have := V.int.inj z; omega)), @decide_eq_false _ (Classical.propDecidable _) (fun z => g (ge.mp z))]
    rw [e1]
    exact q2
  · obtain ⟨w', x, rfl⟩ : ∃ w' x, Wl = w' ++ [x] := ⟨Wl.dropLast, Wl.getLast hWl, (List.dropLast_concat_getLast hWl).symm⟩
    have hx : 1 ≤ x ∧ x ≤ (cs.length : Int) := inW x (by simp)
    have hne : (!((w' ++ [x]).map V.int).isEmpty) = true := by simp
    rw [hne]
    refine iteT ⟨WFo (.tuple [.list rs, .int fr, .int hh, .int l, .list cs]) (.ref p) pc H1 (cs.length + 1 - (F.length + 1)), fun σ' H' z => ⟨_, by show _ < cs.length + 1 - F.length; omega, z⟩, ?_⟩
    refine ⟨_, rfl, .inl ⟨rfl, _, SqL.of hW⟩, W', _, .int x, rfl, rfl, hW, by simp, ?_⟩
    have edl : ((w' ++ [x]).map V.int).dropLast = w'.map V.int := by simp
    rw [edl]
    have hS6 : (upd H5 W' (.lst (w'.map V.int))) S' = some (.dK (seenK F)) := by rw [upd_ne nWS.symm]; exact hS
    have hW6 : (upd H5 W' (.lst (w'.map V.int))) W' = some (.lst (w'.map V.int)) := upd_same
    have s6 : Same H1 (upd H5 W' (.lst (w'.map V.int))) := fun b o e => by
      rw [upd_ne (ne_of_none e nW)]
      exact s5 _ _ e
    generalize upd H5 W' (.lst (w'.map V.int)) = H6 at hS6 hW6 s6 ⊢
    refine ⟨_, rfl, _, rfl, S', _, rfl, DGet.k (k := Sum.inl x) hS6, _, rfl, ?_⟩
    rw [seen_val]
    by_cases hxF : x ∈ F
    · rw [decide_eq_true hxF]
      have q2 := q1 _ s6
      rw [@decide_eq_false _ (Classical.propDecidable _) (good_again it hxF)] at q2
      exact iteT q2
    · rw [decide_eq_false hxF]
      have lsk : (seenK F).length < sizeLine := by
        rw [show (seenK F).length = F.length from List.length_map ..]
        exact small1000' (by omega)
      refine iteF ⟨_, rfl, _, rfl, S', _, rfl, DPut.k (k := Sum.inl x) hS6 lsk, ?_⟩
      rw [seen_put hxF]
      have hS7 : (upd H6 S' (.dK (seenK (F ++ [x])))) S' = some (.dK (seenK (F ++ [x]))) := upd_same
      have hW7 : (upd H6 S' (.dK (seenK (F ++ [x])))) W' = some (.lst (w'.map V.int)) := by rw [upd_ne nWS]; exact hW6
      have s7 : Same H1 (upd H6 S' (.dK (seenK (F ++ [x])))) := fun b o e => by
        rw [upd_ne (ne_of_none e nS)]
        exact s6 _ _ e
      generalize upd H6 S' (.dK (seenK (F ++ [x]))) = H7 at hS7 hW7 s7 ⊢
      obtain ⟨j, ej⟩ : ∃ j : Nat, x - 1 = (j : Int) := ⟨(x - 1).toNat, by omega⟩
      have lj : j < cs.length := by omega
      have hcv : cv[j]? = some (cv[j]'(by omega)) := List.getElem?_eq_getElem (by omega)
      have hcs : cs[j]? = some cs[j] := List.getElem?_eq_getElem lj
      have dc := rc.get hcv hcs
      have cm : cs[j] ∈ cs := List.getElem_mem lj
      obtain ⟨mk, xs, lk, ecj, k0, k1, k4, kall⟩ := cell_inv (allc _ cm)
      have enx : nextD (.tuple [.list rs, .int fr, .int hh, .int l, .list cs]) x = refs xs ++ nz [lk] := by
        show (match cs[(x - 1).toNat]? with
          | some c => nextC c
          | none => []) = _
        rw [ej, Int.toNat_natCast, hcs, ecj]
        rfl
      rw [ecj] at dc
      generalize cv[j]'(by omega) = cx at hcv dc
      cases dc with
      | @tup tx txs _ et rt =>
      obtain ⟨y1, y2, y3, c1, c2, c3, rfl, ecc, g1, g2, g3⟩ := rt.three rfl
      simp only [List.cons.injEq, and_true] at ecc
      obtain ⟨rfl, rfl, rfl⟩ := ecc
      cases g3
      cases g2 with
      | @tup ty tys _ ety rty =>
      have hat : atI cv (x - 1) = some (.ref tx) := by
        rw [ej]
        exact atI_nat hcv
      refine ⟨_, rfl, _, rfl, _, _, rfl, rfl, pc, cv, x - 1, _, rfl, rfl, SqL.of (s7 _ _ ec), hat, tx, _, rfl, SqT.of (s7 _ _ et), rfl, _, _, rfl, _, _, rfl, _, _, rfl, rfl, ?_⟩
      refine ⟨_, rfl, .inl ⟨rfl, _, SqL.of hW7⟩, _, rfl, _, rfl, (show 1 ≤ sizeLine by decide), fun l1 n1 => ?_⟩
      have s8 := same_new (o := .lst [.int lk]) n1
      refine ⟨ty, l1, tys, xs, [lk], true, (cs.length : Int), rfl, s8 _ _ (s7 _ _ ety), rty.same (s7.trans s8) _, kall, upd_same, by omega, (show 1 < 900 by decide), fun pn H8 npn s9 hpn => ?_⟩
      have s10 := s8.trans s9
      have hW8 := s10 _ _ hW7
      have hS8 := s10 _ _ hS7
      have lnx : (refs xs ++ nz [lk]).length ≤ 5 := by
        have := refs_len xs
        have h2 := nz_len [lk]
        rw [List.length_append]
        simp only [List.length_cons, List.length_nil] at h2
        omega
      have lw' : w'.length ≤ 70 + 5 * F.length := by
        rw [List.length_append, List.length_singleton] at lW
        omega
      refine ⟨W', pn, _, _, rfl, rfl, hW8, hpn, ?_, ?_⟩
      · rw [List.length_map, List.length_map]
        exact Nat.le_of_lt (small1000' (by omega))
      · refine ⟨_, _, _, _, S', W', k + 1, w' ++ (refs xs ++ nz [lk]), F ++ [x], rfl, ?_, ?_, nW, nS, nWS, ?_, ?_, ?_, ?_, ?_, ?_, ?_⟩
        · rw [List.length_append, List.length_singleton]
          rfl
        · intro b o e
          rw [upd_ne (ne_of_none e nW)]
          exact s10 _ _ (s7 _ _ e)
        · rw [upd_same]
          simp
        · rw [upd_ne nWS.symm]
          exact hS8
        · rw [← enx]
          exact iter_next it
        · rw [List.nodup_append]
          exact ⟨nd, by simp, fun a ha b hb e => hxF (by simp at hb; rw [← hb, ← e]; exact ha)⟩
        · intro y hy
          rcases List.mem_append.mp hy with hy | hy
          · exact inW y (List.mem_append_left _ hy)
          · exact (List.mem_append.mp hy).elim (refs_in kall y) (nz_in (fun z hz => by rw [List.mem_singleton.mp hz]; exact ⟨k0, k1⟩) y)
        · intro y hy
          rcases List.mem_append.mp hy with hy | hy
          · exact inF y hy
          · rw [List.mem_singleton.mp hy]
            exact hx
        · have e1 : (w' ++ (refs xs ++ nz [lk])).length = w'.length + (refs xs ++ nz [lk]).length := List.length_append
          have e2 : (F ++ [x]).length = F.length + 1 := by simp
          omega
theorem c_is_forest (T : TFst K w mg) : Says P w K mg base 7 "is_forest" ["picture"] sp_forest := says T.d_is_forest sc_is_forest (fun vs H Q E h => by obtain ⟨_, _, rfl, _⟩ := h; rfl) (b_is_forest T)
theorem k_is_forest (T : TFst K w mg) : SaysK P w K mg base 7 "is_forest" ["picture"] ["picture"] (fun l => l) sp_forest := saysK T.k_is_forest sc_is_forest (fun vs H Q E h => by obtain ⟨_, _, rfl, _⟩ := h; rfl) (b_is_forest T)
end
end Cb
set_option Elab.async false
set_option linter.all false
set_option maxRecDepth 100000
set_option maxHeartbeats 4000000
namespace Cb
open PySem PySem.Spec PyProof.Rows L2
abbrev s_l_is_content : Stmt := topS 26
theorem sc_l_is_content : FnScope ["_law_value", "_law_many", "_law_inner"] ["_law_value", "_law_many", "_law_inner"] (defScope s_l_is_content) := ⟨rfl, rfl, rfl, by decide +kernel, rfl, by decide +kernel, by decide +kernel⟩
abbrev s_l_is_cell : Stmt := topS 27
theorem sc_l_is_cell : FnScope ["_law_value", "_law_many", "_law_low"] ["_law_value", "_law_many", "_law_low"] (defScope s_l_is_cell) := ⟨rfl, rfl, rfl, by decide +kernel, rfl, by decide +kernel, by decide +kernel⟩
structure TLc (K : PySem.W.Frag) (w : World) (mg : Str → Option Value) : Prop where
  tn : TCon K w mg
  d_l_is_content : Has K mg "_law_is_content" s_l_is_content ["_law_value", "_law_many", "_law_inner"]
  d_l_is_cell : Has K mg "_law_is_cell" s_l_is_cell ["_law_value", "_law_many", "_law_low"]
section
variable {P : Program} {w : World} {K : PySem.W.Frag} {mg : Str → Option Value} {base : Heap}
def sp_l_is_cell : Sp := fun vs H Q _ => ∃ (v : V) (d : PyData) (n low : Int), vs = [v, .int n, .int low] ∧ DT H v d ∧ Q (.bl (linkB n low d)) H
theorem c_l_is_cell (T : TLc K w mg) : Says P w K mg base 1 "_law_is_cell" ["_law_value", "_law_many", "_law_low"] sp_l_is_cell := by
  refine says T.d_l_is_cell sc_l_is_cell (fun vs H Q E h => ?_) (fun f cdv A outer s H vs Q E hr h => ?_)
  · obtain ⟨_, _, _, _, rfl, _⟩ := h; rfl
  refine ⟨_, (pss_one (ps_ret (pe_and (pe_callB call_isi (by rfl) T.tn.tw.b_isinstance (by decide +kernel) (pa_cons (pv 0) (pa_cons (pe_bltn (v := .ty "int") (by rfl) T.tn.b_int (by decide +kernel) rfl) pa_nil))) (pe_and (pe_not (pe_callB call_isi (by rfl) T.tn.tw.b_isinstance (by decide +kernel) (pa_cons (pv 0) (pa_cons (pe_bltn (v := .ty "bool") (by rfl) T.tn.b_bool (by decide +kernel) rfl) pa_nil)))) (pe_one (pe_chain op_le op_le (pv 2) (pv 0) (pv 1))))))), ?_⟩
  obtain ⟨v, d, n, low, rfl, hd, q⟩ := h
  refine ⟨_, rfl, _, _, _, _, _, rfl, .ty _, hd.ty, kit_ty (kit_i d), _, rfl, ?_⟩
  cases d with
  | int i =>
    refine iteT ⟨_, rfl, _, _, _, _, _, rfl, .ty _, hd.ty, kit_ty (kit_b _), _, rfl, _, rfl, ?_⟩
    cases hd
    have q : Q (.bl (decide (low ≤ i) && decide (i ≤ n))) H := q
    refine iteT ⟨_, rfl, _, rfl, _, _, rfl, rfl, _, rfl, ?_⟩
    by_cases h1 : low ≤ i
    · rw [decide_eq_true h1] at q ⊢
      exact iteT ⟨_, rfl, _, _, rfl, rfl, q⟩
    · rw [decide_eq_false h1] at q ⊢
      exact iteF q
  | bool b => exact iteT ⟨_, rfl, _, _, _, _, _, rfl, .ty _, hd.ty, kit_ty (kit_b _), _, rfl, _, rfl, iteF q⟩
  | none => exact iteF q
  | str z => exact iteF q
  | list ds => exact iteF q
  | tuple ds => exact iteF q
  | dict ds => exact iteF q
theorem inV_three (z : Str) : inV (.str z) [.str "bare", .str "cell", .str "hollow"] = (decide (z = "bare") || (decide (z = "cell") || decide (z = "hollow"))) := by
  have e : ∀ t : Str, eqV (V.str t) (V.str z) = decide (z = t) := fun t => by
    show (t == z) = decide (z = t)
    by_cases h : z = t
    · simp [h]
    · simp [h, Ne.symm h]
  show ([V.str "bare", V.str "cell", V.str "hollow"].any fun y => eqV y (V.str z)) = _
  simp [e]
theorem word_nil : isWord (.str "nil") = true := by decide +kernel
theorem word_int (i : Int) : isWord (.int i) = false := rfl
def sp_l_is_content : Sp := fun vs H Q _ => ∃ (v : V) (d : PyData) (n : Int) (inner : Bool), vs = [v, .int n, .bl inner] ∧ DT H v d ∧ tc d ∧ ∀ H', Same H H' → Q (.bl (contP inner n d)) H'
theorem c_l_is_content (T : TLc K w mg) : Says P w K mg base 2 "_law_is_content" ["_law_value", "_law_many", "_law_inner"] sp_l_is_content := by
  refine says T.d_l_is_content sc_l_is_content (fun vs H Q E h => ?_) (fun f cdv A outer s H vs Q E hr h => ?_)
  · obtain ⟨_, _, _, _, rfl, _⟩ := h; rfl
  refine ⟨_, (pss_cons (ps_if (PW.pt (pw_or (pt_cmpR op_isN (pv 0) pe_non (nomark _)) (pw_or1 (pt_val (pe_callB call_isi (by rfl) T.tn.tw.b_isinstance (by decide +kernel) (pa_cons (pv 0) (pa_cons (pe_bltn (v := .ty "bool") (by rfl) T.tn.b_bool (by decide +kernel) rfl) pa_nil)))))))
        (pss_one (ps_ret pe_bl))
        pss_nil)
    (pss_cons (ps_if (pt_val (pe_callB call_isi (by rfl) T.tn.tw.b_isinstance (by decide +kernel) (pa_cons (pv 0) (pa_cons (pe_bltn (v := .ty "int") (by rfl) T.tn.b_int (by decide +kernel) rfl) pa_nil))))
        (pss_one (ps_ret (pe_chain op_le op_lt (pe_op op_mul (pe_un un_neg (pe_op op_powA pe_int pe_int)) pe_int) (pv 0) (pe_op op_mul (pe_op op_powA pe_int pe_int) pe_int))))
        pss_nil)
    (pss_cons (ps_if (PW.pt (pw_or (pt_not (pt_val (pe_callB call_isi (by rfl) T.tn.tw.b_isinstance (by decide +kernel) (pa_cons (pv 0) (pa_cons (pe_bltn (v := .ty "tuple") (by rfl) T.tn.b_tuple (by decide +kernel) rfl) pa_nil))))) (pw_or (pt_cmpR op_ne (pe_callB call_len_seq (by rfl) T.tn.tw.b_len (by decide +kernel) (pa_cons (pv 0) pa_nil)) pe_int (nomark _)) (pw_or1 (pt_cmpR (r := rIn K true) op_notIn_seq (pe_ix (r := rIxT K) ix_tup (pv 0) pe_int (fun _ _ => rfl)) (pe_lst (pa_cons pe_str (pa_cons pe_str (pa_cons pe_str pa_nil)))) (by rfl))))))
        (pss_one (ps_ret pe_bl))
        pss_nil)
    (pss_cons (ps_if (pt_cmpR op_eq (pe_ix ix_tup (pv 0) pe_int (fun _ _ => rfl)) pe_str (nomark _))
        (pss_one (ps_ret (pe_callB call_isi (by rfl) T.tn.tw.b_isinstance (by decide +kernel) (pa_cons (pe_ix ix_tup (pv 0) pe_int (fun _ _ => rfl)) (pa_cons (pe_bltn (v := .ty "str") (by rfl) T.tn.tw.b_str (by decide +kernel) rfl) pa_nil)))))
        pss_nil)
    (pss_one (ps_ret (pe_and (pe_not (pe_and (pv 2) (pe_one (pe_cmpR op_eq (pe_ix ix_tup (pv 0) pe_int (fun _ _ => rfl)) pe_str (nomark _))))) (pe_one (pe_s (c_l_is_cell T) hr (pa_cons (pe_ix ix_tup (pv 0) pe_int (fun _ _ => rfl)) (pa_cons (pv 1) (pa_cons pe_int pa_nil)))))))))))), ?_⟩
  obtain ⟨v, d, n, inner, rfl, hd, ht, q⟩ := h
  refine ⟨_, rfl, rfl, _, rfl, ?_⟩
  by_cases hn : d = .none
  · subst hn
    cases hd
    exact iteT (q _ (Same.refl _))
  rw [not_non hd hn]
  refine iteF ⟨_, rfl, _, _, _, _, _, rfl, .ty _, hd.ty, kit_ty (kit_b _), _, rfl, ?_⟩
  have pow : ((2 : Int) ^ Int.toNat 60) * 8 = 9223372036854775808 := by decide
  cases d with
  | none => exact absurd rfl hn
  | bool b => exact iteT (q _ (Same.refl _))
  | int i =>
    refine iteF ⟨_, rfl, _, _, _, _, _, rfl, .ty _, hd.ty, kit_ty (kit_i _), _, rfl, iteT ?_⟩
    cases hd
    have q2 := q _ (Same.refl _)
    have q2 : Q (.bl (decide (lo ≤ i) && decide (i ≤ hi))) H := q2
    refine ⟨_, _, rfl, rfl, ⟨by decide, by decide +kernel⟩, _, rfl, _, _, rfl, rfl, ?_⟩
    refine ⟨.inl (by decide +kernel), _, rfl, _, _, rfl, rfl, _, rfl, ?_⟩
    rw [show -((2 : Int) ^ Int.toNat 60) * 8 = lo by decide]
    by_cases h1 : lo ≤ i
    · rw [decide_eq_true h1] at q2 ⊢
      refine iteT ⟨_, _, rfl, rfl, ⟨by decide, by decide +kernel⟩, _, _, rfl, rfl, .inl (by decide +kernel), _, _, rfl, rfl, ?_⟩
      rw [pow]
      have : decide (i < 9223372036854775808) = decide (i ≤ hi) := by
        by_cases z : i ≤ hi
        · rw [decide_eq_true z, decide_eq_true (show i < 9223372036854775808 by unfold hi at z; omega)]
        · rw [decide_eq_false z, decide_eq_false (show ¬ i < 9223372036854775808 by unfold hi at z; omega)]
      show Q (.bl (decide (i < 9223372036854775808))) H
      rw [this]
      exact q2
    · rw [decide_eq_false h1] at q2 ⊢
      exact iteF q2
  | str z => exact iteF ⟨_, rfl, _, _, _, _, _, rfl, .ty _, hd.ty, kit_ty (kit_i _), _, rfl, iteF ⟨_, rfl, _, _, _, _, _, rfl, .ty _, hd.ty, kit_ty (kit_t _), _, rfl, iteT (q _ (Same.refl _))⟩⟩
  | list ds => exact iteF ⟨_, rfl, _, _, _, _, _, rfl, .ty _, hd.ty, kit_ty (kit_i _), _, rfl, iteF ⟨_, rfl, _, _, _, _, _, rfl, .ty _, hd.ty, kit_ty (kit_t _), _, rfl, iteT (q _ (Same.refl _))⟩⟩
  | dict ds => exact iteF ⟨_, rfl, _, _, _, _, _, rfl, .ty _, hd.ty, kit_ty (kit_i _), _, rfl, iteF ⟨_, rfl, _, _, _, _, _, rfl, .ty _, hd.ty, kit_ty (kit_t _), _, rfl, iteT (q _ (Same.refl _))⟩⟩
  | tuple ds =>
    refine iteF ⟨_, rfl, _, _, _, _, _, rfl, .ty _, hd.ty, kit_ty (kit_i _), _, rfl, iteF ⟨_, rfl, _, _, _, _, _, rfl, .ty _, hd.ty, kit_ty (kit_t _), _, rfl, iteF ?_⟩⟩
    cases hd with
    | @tup p xs _ e r =>
      have lx := r.length
      refine ⟨_, rfl, p, xs, rfl, .inr (SqT.of e), rfl, _, rfl, ifNeI (fun h => ?_) (fun h => ?_)⟩
      · have q2 := q _ (Same.refl _)
        rw [contP_len (by omega)] at q2
        exact q2
      · obtain ⟨x, y, a, b, rfl, rfl, ha, hb⟩ := r.two (by omega)
        obtain ⟨z, rfl, hz⟩ := ht _ _ rfl
        cases ha
        refine ⟨_, rfl, p, _, _, _, rfl, rfl, SqT.of e, rfl, (show 3 ≤ sizeLine by decide), fun l nl => ?_⟩
        have s1 := same_new (o := .lst [.str "bare", .str "cell", .str "hollow"]) nl
        have e1 := s1 _ _ e
        have hb1 := hb.same s1 _
        have el : (upd H l (.lst [.str "bare", .str "cell", .str "hollow"])) l = some (.lst [.str "bare", .str "cell", .str "hollow"]) := upd_same
        have q1 := q _ s1
        generalize upd H l (.lst [.str "bare", .str "cell", .str "hollow"]) = H1 at s1 e1 hb1 el q1 ⊢
        refine ⟨l, _, rfl, .inl (SqL.of el), rfl, rfl, _, rfl, ?_⟩
        have ec : contP inner n (.tuple [.str z, b]) = if z = "bare" then isWord b else (decide (z = "cell") || (!inner && decide (z = "hollow"))) && linkB n 1 b := rfl
        rw [ec] at q1
        show if (!inV (V.str z) [.str "bare", .str "cell", .str "hollow"]) = true then _ else _
        rw [inV_three]
        by_cases hz1 : z = "bare"
        · rw [if_pos hz1] at q1
          rw [decide_eq_true hz1, Bool.true_or]
          refine iteF ⟨_, rfl, p, _, _, _, rfl, rfl, SqT.of e1, rfl, rfl, _, rfl, ?_⟩
          rw [decide_eq_true (congrArg V.str hz1)]
          refine iteT ⟨_, rfl, p, _, _, _, rfl, rfl, SqT.of e1, rfl, _, _, _, _, _, rfl, .ty _, hb1.ty, kit_ty (kit_s b), ?_⟩
          rcases hz hz1 with rfl | ⟨i, rfl⟩
          · rw [word_nil] at q1
            exact q1
          · rw [word_int] at q1
            exact q1
        · rw [if_neg hz1] at q1
          rw [decide_eq_false hz1, Bool.false_or]
          refine ifNo (fun hh => ?_) (fun hh => ?_)
          · have h1 : ¬ z = "cell" ∧ ¬ z = "hollow" := by simpa using hh
            rw [decide_eq_false h1.1, decide_eq_false h1.2] at q1
            have q1 : Q (.bl false) H1 := by simpa using q1
            exact q1
          · refine ⟨_, rfl, p, _, _, _, rfl, rfl, SqT.of e1, rfl, rfl, _, rfl, ?_⟩
            rw [decide_eq_false fun e => hz1 (V.str.inj e)]
            refine iteF ⟨_, rfl, _, rfl, ?_⟩
            cases inner with
            | false =>
              have q1 : Q (.bl (linkB n 1 b)) H1 := by
                have hh2 : (decide (z = "cell") || (!false && decide (z = "hollow"))) = true := by simpa using hh
                rwa [hh2, Bool.true_and] at q1
              exact iteF ⟨_, rfl, _, rfl, iteT ⟨_, rfl, p, _, _, _, rfl, rfl, SqT.of e1, rfl, _, rfl, y, b, n, 1, rfl, hb1, q1⟩⟩
            | true =>
              refine iteT ⟨_, rfl, p, _, _, _, rfl, rfl, SqT.of e1, rfl, rfl, _, rfl, _, rfl, ?_⟩
              by_cases h2 : z = "hollow"
              · subst h2
                rw [decide_eq_true rfl]
                have q1 : Q (.bl false) H1 := q1
                exact iteF q1
              · rw [decide_eq_false fun e => h2 (V.str.inj e)]
                have q1 : Q (.bl (linkB n 1 b)) H1 := by
                  have h3 : decide (z = "cell") = true := by simpa [h2] using hh
                  rw [h3] at q1
                  exact q1
                exact iteT ⟨_, rfl, p, _, _, _, rfl, rfl, SqT.of e1, rfl, _, rfl, y, b, n, 1, rfl, hb1, q1⟩
end
end Cb
set_option Elab.async false
set_option linter.all false
set_option maxRecDepth 100000
set_option maxHeartbeats 4000000
namespace Cb
open PySem PySem.Spec PyProof.Rows L2
abbrev s_l_has_form : Stmt := topS 28
abbrev NLf : List Str := ["_law_picture", "_law_many", "_law_cell_here", "_law_value", "_law_at"]
theorem sc_l_has_form : FnScope NLf ["_law_picture"] (defScope s_l_has_form) := ⟨rfl, rfl, rfl, by decide +kernel, rfl, by decide +kernel, by decide +kernel⟩
structure TLf (K : PySem.W.Frag) (w : World) (mg : Str → Option Value) : Prop where
  tc : TLc K w mg
  d_l_has_form : Has K mg "_law_has_form" s_l_has_form ["_law_picture"]
theorem yat {xs : List V} : ∀ j H x H', YAt xs j H x H' → H' = H ∧ xs[j]? = some x := fun _ _ _ _ z => z
/-- [x for x in xs if not f(x)] is empty where all have f -/
theorem lc_not {f : PyData → Bool} {J : It} {G : Hp → Prop} {Y : Nat → Hp → V → Hp → Prop} {i : Nat} {tt : TT} {te : TE} {σ : L2.St} {H1 : Hp} {D : Addr} {Qd : Hp → Prop} {xs : List V} {ds : List PyData} (wk : Walk J xs.length G Y) (y0 : ∀ j H x H', Y j H x H' → H' = H ∧ xs[j]? = some x) (g0 : ∀ H, Same H1 H → G H) (hD : H1 D = none) (r : DTs H1 xs ds) (small : ds.length < 1000)
    (hs : ∀ (j : Nat) (x : V) (d : PyData) (H' : Hp) (Q : Bool → Hp → Prop), Same H1 H' → DT H' x d → d ∈ ds → (∀ H'', Same H' H'' → Q (!f d) H'') → tt ((wipe σ [i]).set i (some x)) H' Q)
    (he : ∀ (x : V) (H' : Hp) (Q : VK), Q x H' → te ((wipe σ [i]).set i (some x)) H' Q)
    (hd : ∀ H' acc, Same H1 H' → H' D = some (.lst acc) → acc.isEmpty = ds.all f → Qd H') :
    ∃ W : Nat → Nat → Hp → Prop, (∃ m, W 0 m (upd H1 D (.lst []))) ∧ ∀ k m H, W k m H →
      (J.stop k H ∧ Qd H) ∨ (J.go k H ∧ ∃ Nx : Hp → Prop, (∀ H', Nx H' → ∃ m', m' < m ∧ W (k + 1) m' H') ∧ ∀ x H', J.yld k H x H' → gName i x (wipe σ [i]) H' fun σ2 H2 => wipe σ2 [i] = wipe σ [i] ∧ tt σ2 H2 fun b H3 =>
        if b = true then te σ2 H3 fun y H4 => ∃ acc, H4 D = some (.lst acc) ∧ acc.length < sizeLine ∧ Nx (upd H4 D (.lst (acc ++ [y]))) else Nx H3) := by
  have lx := r.length
  refine lc_it wk (fun j H' => Same H1 H' ∧ ∃ acc, H' D = some (.lst acc) ∧ acc.isEmpty = (ds.take j).all f ∧ acc.length ≤ j) ⟨same_new hD, [], upd_same, rfl, Nat.le_refl _⟩ (fun j H' _ z => g0 H' z.1) ?_ ?_
  · rintro j x H H' hj ⟨s1, acc, hd1, ea, la⟩ y
    obtain ⟨rfl, hx⟩ := y0 _ _ _ _ y
    obtain ⟨d, hdj, dx⟩ := r.all1 hx
    refine ⟨?_, ?_⟩
    · show ((wipe σ [i]).set i (some x)).set i none = wipe σ [i]
      show ((σ.set i none).set i (some x)).set i none = σ.set i none
      rw [List.set_set, List.set_set]
    · refine hs j x d H' _ s1 (dx.same s1 _) (List.mem_of_getElem? hdj) fun H'' s2 => ?_
      have et : (ds.take (j + 1)).all f = ((ds.take j).all f && f d) := by
        rw [List.take_add_one, hdj, List.all_append]
        simp
      have e2 := s2 _ _ hd1
      cases hf : f d with
      | true =>
        refine iteF ⟨s1.trans s2, acc, e2, ?_, by omega⟩
        rw [et, hf, Bool.and_true, ea]
      | false =>
        refine iteT (he _ _ _ ⟨acc, e2, small1000' (by omega), ?_, _, upd_same, ?_, ?_⟩)
        · intro b o e
          rw [upd_ne (ne_of_none e hD)]
          exact s2 _ _ (s1 _ _ e)
        · rw [et, hf, Bool.and_false]
          simp
        · rw [List.length_append]
          exact Nat.add_le_add_right la 1
  · rintro H' ⟨s1, acc, hd1, ea, la⟩
    rw [lx, List.take_length] at ea
    exact hd H' acc s1 hd1 ea
/-- the end of `[..] != []` -/
theorem ifEmp {acc : List V} {b : Bool} {A B : Prop} (e : acc.isEmpty = b) (y : b = false → A) (n : b = true → B) : if (!acc.isEmpty) = true then A else B := by
  rw [e]
  exact ifNo y n
section
variable {P : Program} {w : World} {K : PySem.W.Frag} {mg : Str → Option Value} {base : Heap}
theorem b_l_has_form (T : TLf K w mg) : Body P w K mg base 3 "_law_has_form" s_l_has_form NLf sp_pic_form := by
  intro f cdv A outer st H vs Q E hr h
  refine ⟨_, (pss_cons (ps_if (PW.pt (pw_or (pt_not (pt_val (pe_callB call_isi (by rfl) T.tc.tn.tw.b_isinstance (by decide +kernel) (pa_cons (pv 0) (pa_cons (pe_bltn (v := .ty "tuple") (by rfl) T.tc.tn.b_tuple (by decide +kernel) rfl) pa_nil))))) (pw_or (pt_cmpR op_ne (pe_callB call_len_seq (by rfl) T.tc.tn.tw.b_len (by decide +kernel) (pa_cons (pv 0) pa_nil)) pe_int (nomark _)) (pw_or (pt_not (pt_val (pe_callB call_isi (by rfl) T.tc.tn.tw.b_isinstance (by decide +kernel) (pa_cons (pe_ix ix_tup (pv 0) pe_int (fun _ _ => rfl)) (pa_cons (pe_bltn (v := .ty "list") (by rfl) T.tc.tn.tw.b_list (by decide +kernel) rfl) pa_nil))))) (pw_or1 (pt_not (pt_val (pe_callB call_isi (by rfl) T.tc.tn.tw.b_isinstance (by decide +kernel) (pa_cons (pe_ix ix_tup (pv 0) pe_int (fun _ _ => rfl)) (pa_cons (pe_bltn (v := .ty "list") (by rfl) T.tc.tn.tw.b_list (by decide +kernel) rfl) pa_nil))))))))))
        (pss_one (ps_ret pe_bl))
        pss_nil)
    (pss_cons (ps_set (i := 1) sc_l_has_form.nd rfl (.inr rfl) (pe_callB call_len_seq (by rfl) T.tc.tn.tw.b_len (by decide +kernel) (pa_cons (pe_ix ix_tup (pv 0) pe_int (fun _ _ => rfl)) pa_nil)))
    (pss_cons (ps_if (PW.pt (pw_or (pt_cmpR op_ne (pe_callB call_len_seq (by rfl) T.tc.tn.tw.b_len (by decide +kernel) (pa_cons (pe_ix ix_tup (pv 0) pe_int (fun _ _ => rfl)) pa_nil)) pe_int (nomark _)) (pw_or1 (pt_cmpR (op_neNil hr.units) (pe_lc (own := [("_law_value", 3)]) (g := gName 3) rfl sc_l_has_form.nd (pi_list (pe_ix ix_tup (pv 0) pe_int (fun _ _ => rfl))) (blkOk_by (N := NLf) (sc := defScope s_l_has_form) (own := [("_law_value", 3)]) (by decide +kernel)) (fun _ _ _ _ _ => pg_name (i := 3) sc_l_has_form.nd rfl (Or.inl rfl)) (fun _ _ _ _ _ => pts_one (pt_not (pt_val (pe_s (c_l_is_content T.tc) hr (pa_cons (pv 3) (pa_cons (pv 1) (pa_cons pe_bl pa_nil))))))) (fun _ _ _ _ _ => (pv 3))) (pe_lst pa_nil) (nomark _)))))
        (pss_one (ps_ret pe_bl))
        pss_nil)
    (pss_cons (ps_if (pt_cmpR (op_neNil hr.units) (pe_lc (own := [("_law_at", 4)]) (g := gName 4) rfl sc_l_has_form.nd (pi_tup (pe_slice sl_tup (pv 0) (po_some pe_int) (po_some pe_int))) (blkOk_by (N := NLf) (sc := defScope s_l_has_form) (own := [("_law_at", 4)]) (by decide +kernel)) (fun _ _ _ _ _ => pg_name (i := 4) sc_l_has_form.nd rfl (Or.inl rfl)) (fun _ _ _ _ _ => pts_one (pt_not (pt_val (pe_s (c_l_is_cell T.tc) hr (pa_cons (pv 4) (pa_cons (pv 1) (pa_cons pe_int pa_nil))))))) (fun _ _ _ _ _ => (pv 4))) (pe_lst pa_nil) (nomark _))
        (pss_one (ps_ret pe_bl))
        pss_nil)
    (pss_cons (ps_for PassesOwn.never rfl (pi_list (pe_ix ix_tup (pv 0) pe_int (fun _ _ => rfl))) (pg_name (i := 2) sc_l_has_form.nd rfl (.inl rfl))
        (pss_cons (ps_if (PW.pt (pw_or (pt_not (pt_val (pe_callB call_isi (by rfl) T.tc.tn.tw.b_isinstance (by decide +kernel) (pa_cons (pv 2) (pa_cons (pe_bltn (v := .ty "tuple") (by rfl) T.tc.tn.b_tuple (by decide +kernel) rfl) pa_nil))))) (pw_or (pt_cmpR op_ne (pe_callB call_len_seq (by rfl) T.tc.tn.tw.b_len (by decide +kernel) (pa_cons (pv 2) pa_nil)) pe_int (nomark _)) (pw_or (pt_not (pt_val (pe_callB call_isi (by rfl) T.tc.tn.tw.b_isinstance (by decide +kernel) (pa_cons (pe_ix ix_tup (pv 2) pe_int (fun _ _ => rfl)) (pa_cons (pe_bltn (v := .ty "tuple") (by rfl) T.tc.tn.b_tuple (by decide +kernel) rfl) pa_nil))))) (pw_or (pt_cmpR op_gt (pe_callB call_len_seq (by rfl) T.tc.tn.tw.b_len (by decide +kernel) (pa_cons (pe_ix ix_tup (pv 2) pe_int (fun _ _ => rfl)) pa_nil)) pe_int (nomark _)) (pw_or1 (pt_not (pt_val (pe_s (c_l_is_cell T.tc) hr (pa_cons (pe_ix ix_tup (pv 2) pe_int (fun _ _ => rfl)) (pa_cons (pv 1) (pa_cons pe_int pa_nil))))))))))))
            (pss_one (ps_ret pe_bl))
            pss_nil)
        (pss_one (ps_if (pt_cmpR (op_neNil hr.units) (pe_lc (own := [("_law_value", 3)]) (g := gName 3) rfl sc_l_has_form.nd (pi_tup (pe_ix ix_tup (pv 2) pe_int (fun _ _ => rfl))) (blkOk_by (N := NLf) (sc := defScope s_l_has_form) (own := [("_law_value", 3)]) (by decide +kernel)) (fun _ _ _ _ _ => pg_name (i := 3) sc_l_has_form.nd rfl (Or.inl rfl)) (fun _ _ _ _ _ => pts_one (pt_not (pt_val (pe_s (c_l_is_content T.tc) hr (pa_cons (pv 3) (pa_cons (pv 1) (pa_cons pe_bl pa_nil))))))) (fun _ _ _ _ _ => (pv 3))) (pe_lst pa_nil) (nomark _))
            (pss_one (ps_ret pe_bl))
            pss_nil))))
    (pss_one (ps_ret pe_bl))))))), ?_⟩
  obtain ⟨v, d, rfl, hd, ht, q⟩ := h
  refine ⟨_, rfl, _, _, _, _, _, rfl, .ty _, hd.ty, kit_ty (kit_t d), _, rfl, ?_⟩
  cases d with
  | tuple ds =>
    refine iteF ?_
    cases hd with
    | @tup p xs _ e r =>
      have lx := r.length
      refine ⟨_, rfl, p, xs, rfl, .inr (SqT.of e), rfl, _, rfl, ifNeI (fun h => ?_) (fun h => ?_)⟩
      · have q2 := q _ (Same.refl _)
        rw [formP_len (by omega)] at q2
        exact q2
      · obtain ⟨v1, v2, v3, v4, v5, a, b, c, d, k, rfl, rfl, h1, h2, h3, h4, h5⟩ := r.five (by omega)
        refine ⟨_, rfl, p, _, _, _, rfl, rfl, SqT.of e, rfl, _, _, _, _, _, rfl, .ty _, h1.ty, kit_ty (kit_l a), _, rfl, ?_⟩
        cases a with
        | list rs =>
          refine iteF ⟨_, rfl, p, _, _, _, rfl, rfl, SqT.of e, rfl, _, _, _, _, _, rfl, .ty _, h5.ty, kit_ty (kit_l k), _, rfl, ?_⟩
          cases k with
          | list cs =>
            refine iteF ?_
            cases h1 with
            | @lst p1 rv _ e1 r1 =>
            cases h5 with
            | @lst p5 cv _ e5 r5 =>
            have l1 := r1.length
            have l5 := r5.length
            obtain ⟨t1, t5⟩ := ht _ _ _ _ _ rfl
            obtain ⟨m1, t1⟩ := t1 _ rfl
            obtain ⟨m5, t5⟩ := t5 _ rfl
            refine ⟨_, rfl, p, _, _, _, rfl, rfl, SqT.of e, rfl, p5, cv, rfl, .inl (SqL.of e5), ?_⟩
            have el : (V.int ((cv.length : Nat) : Int)) = V.int ((cs.length : Nat) : Int) := by rw [l5]
            rw [el]
            refine ⟨_, rfl, p, _, _, _, rfl, rfl, SqT.of e, rfl, p1, rv, rfl, .inl (SqL.of e1), rfl, _, rfl, ifNeI (fun h => ?_) (fun h => ?_)⟩
            · have q2 := q _ (Same.refl _)
              have : formP (.tuple [.list rs, b, c, d, .list cs]) = false := by
                simp only [formP, Bool.and_eq_false_iff, decide_eq_false_iff_not]
                exact .inl (.inl (.inl (by omega)))
              rw [this] at q2
              exact q2
            · have h64 : decide (rs.length = 64) = true := decide_eq_true (by omega)
              have ef : formP (.tuple [.list rs, b, c, d, .list cs]) = (rs.all (contP false cs.length) && [b, c, d].all (linkB cs.length 0) && cs.all (cellP cs.length)) := by
                simp only [formP, h64, Bool.true_and]
              rw [ef] at q
              refine ⟨_, rfl, p, _, _, _, rfl, rfl, SqT.of e, rfl, p1, rfl, ⟨_, SqL.of e1⟩, fun D hD => lc_not (f := contP false cs.length) (walk_list (K := K) (a := p1) (xs := rv)) yat (fun H' s' => SqL.of (s' _ _ e1)) hD r1 (by omega) ?_ (fun x H' Q q => ⟨x, rfl, q⟩) fun H1 acc s1 hacc ea => ?_⟩
              · exact fun j x d H' Q' s1 dx dm q' => ⟨x, rfl, _, rfl, x, d, _, false, rfl, dx, t1 _ dm, fun H'' s'' => ⟨_, rfl, q' H'' s''⟩⟩
              refine ⟨Nat.zero_le _, fun l nl => ?_⟩
              have s2 := s1.trans (same_new (o := .lst []) nl)
              refine ⟨D, l, acc, rfl, rfl, same_new nl _ _ hacc, upd_same, _, rfl, ifEmp ea (fun hb => ?_) (fun hb => ?_)⟩
              · have q2 := q _ s2
                rw [hb] at q2
                exact q2
              rw [hb] at q
              simp only [Bool.true_and] at q
              generalize upd H1 l (.lst []) = H2 at s2 ⊢
              refine ⟨_, rfl, 1, rfl, 4, rfl, p, _, rfl, SqT.of (s2 _ _ e), (fun z => absurd (show HT.sIx 5 0 (some 1) = 0 from z.1) (by decide)), fun sp nsp => ?_⟩
              have s3 := s2.trans (same_new (o := .tup (cutV [.ref p1, v2, v3, v4, .ref p5] (some 1) (some 4))) nsp)
              have esp : (upd H2 sp (.tup (cutV [.ref p1, v2, v3, v4, .ref p5] (some 1) (some 4)))) sp = some (.tup [v2, v3, v4]) := upd_same
              generalize upd H2 sp (.tup (cutV [.ref p1, v2, v3, v4, .ref p5] (some 1) (some 4))) = H3 at s3 esp ⊢
              have r3 : DTs H3 [v2, v3, v4] [b, c, d] := .cons (h2.same s3 _) (.cons (h3.same s3 _) (.cons (h4.same s3 _) .nil))
              refine ⟨sp, rfl, ⟨_, SqT.of esp⟩, fun D2 hD2 => lc_not (f := linkB cs.length 0) (walk_tup (K := K) (a := sp) (xs := [v2, v3, v4])) yat (fun H' s' => SqT.of (s' _ _ esp)) hD2 r3 (show 3 < 1000 by decide) ?_ (fun x H' Q q => ⟨x, rfl, q⟩) fun H4 acc2 s4 hacc2 ea2 => ?_⟩
              · exact fun j x d H' Q' s1 dx dm q' => ⟨x, rfl, _, rfl, x, d, _, _, rfl, dx, _, rfl, q' _ (Same.refl _)⟩
              refine ⟨Nat.zero_le _, fun l2 nl2 => ?_⟩
              have s5 := (s3.trans s4).trans (same_new (o := .lst []) nl2)
              refine ⟨D2, l2, acc2, rfl, rfl, same_new nl2 _ _ hacc2, upd_same, _, rfl, ifEmp ea2 (fun hb => ?_) (fun hb => ?_)⟩
              · have q2 := q _ s5
                rw [hb] at q2
                exact q2
              rw [hb] at q
              simp only [Bool.true_and] at q
              generalize upd H4 l2 (.lst []) = H5 at s5 ⊢
              refine ⟨_, rfl, p, _, _, _, rfl, rfl, SqT.of (s5 _ _ e), rfl, p5, rfl, ⟨_, SqL.of (s5 _ _ e5)⟩, ?_⟩
              refine for_list (xs := cv) (fun j σ H' => ∃ x2, σ = [some (.ref p), some (.int cs.length), x2, none, none] ∧ Same H H' ∧ (cs.take j).all (cellP cs.length) = true) ⟨none, rfl, s5, rfl⟩ (fun j σ H' _ z => SqL.of (z.choose_spec.2.1 _ _ e5)) ?_ ?_
              · rintro j x σ H6 hx ⟨x2, rfl, s6, hall⟩
                obtain ⟨cd, hcd, dx⟩ := r5.all1 hx
                have dx := dx.same s6 _
                have tcd := t5 _ (List.mem_of_getElem? hcd)
                have et : (cs.take (j + 1)).all (cellP cs.length) = cellP cs.length cd := by
                  rw [List.take_add_one, hcd, List.all_append, hall]
                  simp
                have bad : cellP cs.length cd = false → ∀ H', Same H H' → Q (.bl false) H' := fun hf H' s' => by
                  have q2 := q _ s'
                  have : cs.all (cellP cs.length) = false := List.all_eq_false.mpr ⟨cd, List.mem_of_getElem? hcd, by simp [hf]⟩
                  rwa [this] at q2
                rw [et]
                clear et hall hx hcd q
                refine ⟨_, rfl, _, _, _, _, _, rfl, .ty _, dx.ty, kit_ty (kit_t cd), _, rfl, ?_⟩
                cases cd with
                | tuple ks =>
                  refine iteF ?_
                  cases dx with
                  | @tup tx ws _ ex rx =>
                  have lw := rx.length
                  refine ⟨_, rfl, tx, ws, rfl, .inr (SqT.of ex), rfl, _, rfl, ifNeI (fun h => ?_) (fun h => ?_)⟩
                  · exact bad (cellP_len (by omega)) _ s6
                  · obtain ⟨y1, y2, y3, a1, a2, a3, rfl, rfl, g1, g2, g3⟩ := rx.three (by omega)
                    refine ⟨_, rfl, tx, _, _, _, rfl, rfl, SqT.of ex, rfl, _, _, _, _, _, rfl, .ty _, g2.ty, kit_ty (kit_t a2), _, rfl, ?_⟩
                    cases a2 with
                    | tuple zs =>
                      refine iteF ?_
                      cases g2 with
                      | @tup ty tys _ ey ry =>
                      have ly := ry.length
                      obtain ⟨l9, tk⟩ := tcd _ _ _ rfl
                      refine ⟨_, rfl, tx, _, _, _, rfl, rfl, SqT.of ex, rfl, ty, tys, rfl, .inr (SqT.of ey), _, _, rfl, rfl, _, rfl, ifGt (fun h4 => ?_) (fun h4 => ?_)⟩
                      · exact bad (by simp [cellP]; omega) _ s6
                      · refine ⟨_, rfl, tx, _, _, _, rfl, rfl, SqT.of ex, rfl, _, rfl, y3, a3, _, _, rfl, g3, _, rfl, ifNo (fun hl => ?_) (fun hl => ?_)⟩
                        · exact bad (by simp [cellP, hl]) _ s6
                        · have ec : cellP cs.length (.tuple [a1, .tuple zs, a3]) = zs.all (contP true cs.length) := by simp [cellP, hl]; omega
                          rw [ec] at bad ⊢
                          refine ⟨_, rfl, tx, _, _, _, rfl, rfl, SqT.of ex, rfl, ty, rfl, ⟨_, SqT.of ey⟩, fun D3 hD3 => lc_not (f := contP true cs.length) (walk_tup (K := K) (a := ty) (xs := tys)) yat (fun H' s' => SqT.of (s' _ _ ey)) hD3 ry (by omega) ?_ (fun x H' Q q => ⟨x, rfl, q⟩) fun H7 acc3 s7 hacc3 ea3 => ?_⟩
                          · exact fun j x d H' Q' s1 dx dm q' => ⟨x, rfl, _, rfl, x, d, _, true, rfl, dx, tk _ dm, fun H'' s'' => ⟨_, rfl, q' H'' s''⟩⟩
                          refine ⟨Nat.zero_le _, fun l3 nl3 => ?_⟩
                          have s8 := (s6.trans s7).trans (same_new (o := .lst []) nl3)
                          refine ⟨D3, l3, acc3, rfl, rfl, same_new nl3 _ _ hacc3, upd_same, _, rfl, ifEmp ea3 (fun hb => ?_) (fun hb => ?_)⟩
                          · exact bad hb _ s8
                          · exact ⟨_, rfl, s8, hb⟩
                    | _ => exact iteT (bad rfl _ s6)
                | _ => exact iteT (bad rfl _ s6)
              · rintro σ H6 ⟨x2, rfl, s6, hall⟩
                rw [l5, List.take_length] at hall
                rw [hall] at q
                exact q _ s6
          | _ =>
            have q2 := q _ (Same.refl _)
            simp only [formP] at q2
            exact iteT q2
        | _ =>
          have q2 := q _ (Same.refl _)
          simp only [formP] at q2
          exact iteT q2
  | _ => exact iteT (q _ (Same.refl _))
end
end Cb
set_option Elab.async false
set_option linter.all false
set_option maxRecDepth 100000
set_option maxHeartbeats 4000000
namespace Cb
open PySem PySem.Spec PyProof.Rows L2
abbrev s_l_due : Stmt := topS 29
abbrev NLd : List Str := ["_law_picture", "_law_left", "_law_found", "_law_mark", "_law_contents", "_law_link", "_law_value", "_law_at"]
theorem sc_l_due : FnScope NLd ["_law_picture"] (defScope s_l_due) := ⟨rfl, rfl, rfl, by decide +kernel, rfl, by decide +kernel, by decide +kernel⟩
structure TLd (K : PySem.W.Frag) (w : World) (mg : Str → Option Value) : Prop where
  tl : TLf K w mg
  d_l_due : Has K mg "_law_due" s_l_due ["_law_picture"]
  b_sorted : mg "sorted" = none
  b_range : mg "range" = none
theorem ifLe {i j : Int} {A B : Prop} (y : i ≤ j → A) (n : ¬ i ≤ j → B) : if decide (i ≤ j) = true then A else B := by
  by_cases h : i ≤ j
  · rw [decide_eq_true h]
    exact iteT (y h)
  · rw [decide_eq_false h]
    exact iteF (n h)
theorem okd_ints {ns : List Int} (h : ns.length < 1000) : OKd (.list (ns.map PyData.int)) := by
  refine ⟨?_, ?_⟩
  · simp only [Cb.good, List.length_map, h, decide_true, Bool.true_and]
    exact goods_of fun d hd => by
      obtain ⟨n, _, rfl⟩ := List.mem_map.mp hd
      rfl
  · have := depthAll_le (n := 0) (ds := ns.map PyData.int) fun d hd => by
      obtain ⟨n, _, rfl⟩ := List.mem_map.mp hd
      simp [PyData.depth]
    simp only [PyData.depth]
    omega
theorem dts_ints {H : Hp} : ∀ ns : List Int, DTs H (ns.map V.int) (ns.map PyData.int)
  | [] => .nil
  | n :: ns => .cons (.int n) (dts_ints ns)
theorem eqvAll_ints : ∀ a b : List Int, PyData.eqvAll (a.map PyData.int) (b.map PyData.int) = decide (a = b)
  | [], [] => rfl
  | [], _ :: _ => rfl
  | _ :: _, [] => rfl
  | x :: a, y :: b => by
    have e : PyData.eqvAll ((x :: a).map PyData.int) ((y :: b).map PyData.int) = (PyData.eqv (.int x) (.int y) && PyData.eqvAll (a.map PyData.int) (b.map PyData.int)) := by
      simp only [List.map_cons, PyData.eqvAll]
    rw [e, eqvAll_ints a b]
    have e2 : PyData.eqv (.int x) (.int y) = decide (x = y) := by
      simp only [PyData.eqv]
      by_cases h : x = y <;> simp [h]
    rw [e2]
    by_cases h : x = y <;> by_cases h2 : a = b <;> simp [h, h2]
theorem eqv_ints (a b : List Int) : PyData.eqv (.list (a.map .int)) (.list (b.map .int)) = decide (a = b) := by
  rw [← eqvAll_ints]
  simp only [PyData.eqv]
theorem rg_upTo (n : Nat) : rgV 1 ((n : Int) + 1) = (upTo n).map V.int := by
  unfold rgV upTo
  rw [show ((n : Int) + 1 - 1).toNat = n by omega, List.map_map]
  rfl
/-- what stands in the loop -/
def WLd (d : PyData) (v : V) (H : Hp) (m : Nat) (σ : L2.St) (H' : Hp) : Prop := ∃ (x3 x4 x5 x7 : Option V) (S W : Addr) (k : Nat) (Wl F : List Int), σ = [some v, some (.ref W), some (.ref S), x3, x4, x5, none, x7] ∧ m = (cellsD d).length + 2 - F.length ∧ Same H H' ∧ H W = none ∧ H S = none ∧ W ≠ S ∧
  H' W = some (.lst (Wl.map V.int)) ∧ H' S = some (.lst (F.map V.int)) ∧ iter (nextD d) (startD d) k = some (Wl, F) ∧ (∀ x ∈ Wl, 1 ≤ x ∧ x ≤ (cellsD d).length) ∧ (∀ x ∈ F, 1 ≤ x ∧ x ≤ (cellsD d).length) ∧ Wl.length ≤ 70 + 5 * F.length ∧ F.length ≤ (cellsD d).length + 1
section
variable {P : Program} {w : World} {K : PySem.W.Frag} {mg : Str → Option Value} {base : Heap}
theorem c_l_has_form (T : TLf K w mg) : Says P w K mg base 4 "_law_has_form" ["_law_picture"] sp_pic_form := says T.d_l_has_form sc_l_has_form (fun vs H Q E h => by obtain ⟨_, _, rfl, _⟩ := h; rfl) (b_l_has_form T)
theorem b_l_due (T : TLd K w mg) : Body P w K mg base 5 "_law_due" s_l_due NLd sp_forest := by
  intro f cdv A outer st H vs Q E hr h
  refine ⟨_, (pss_cons (ps_if (pt_not (pt_val (pe_s (c_l_has_form T.tl) hr (pa_cons (pv 0) pa_nil))))
        (pss_one (ps_ret pe_bl))
        pss_nil)
    (pss_cons (ps_set (i := 1) sc_l_due.nd rfl (.inl rfl) (pe_op op_cat (pe_lc (own := [("_law_value", 6)]) (g := gName 6) rfl sc_l_due.nd (pi_list (pe_ix ix_tup (pv 0) pe_int (fun _ _ => rfl))) (blkOk_by (N := NLd) (sc := defScope s_l_due) (own := [("_law_value", 6)]) (by decide +kernel)) (fun _ _ _ _ _ => pg_name (i := 6) sc_l_due.nd rfl (Or.inl rfl)) (fun _ _ _ _ _ => pts_one (PW.pt (pw_and (pt_val (pe_callB (id := "isinstance") (r := rIsi K) call_isi (by rfl) T.tl.tc.tn.tw.b_isinstance (by decide +kernel) (pa_cons (pv 6) (pa_cons (pe_bltn (v := .ty "tuple") (by rfl) T.tl.tc.tn.b_tuple (by decide +kernel) rfl) pa_nil)))) (pw_and1 (pt_cmpR op_ne (pe_ix (r := rIxT K) ix_tup (pv 6) pe_int (fun _ _ => rfl)) pe_str (nomark _)))))) (fun _ _ _ _ _ => (pe_ix (r := rIxT K) ix_tup (pv 6) pe_int (fun _ _ => rfl)))) (pe_lc (own := [("_law_at", 7)]) (g := gName 7) rfl sc_l_due.nd (pi_tup (pe_slice sl_tup (pv 0) (po_some pe_int) (po_some pe_int))) (blkOk_by (N := NLd) (sc := defScope s_l_due) (own := [("_law_at", 7)]) (by decide +kernel)) (fun _ _ _ _ _ => pg_name (i := 7) sc_l_due.nd rfl (Or.inl rfl)) (fun _ _ _ _ _ => pts_one (pt_cmpR op_gt (pv 7) pe_int (nomark _))) (fun _ _ _ _ _ => (pv 7)))))
    (pss_cons (ps_set (i := 2) sc_l_due.nd rfl (.inl rfl) (pe_lst pa_nil))
    (pss_cons (ps_while PassesOwn.never (PW.pt (pw_and (pt_cmpR (op_neNil hr.units) (pv 1) (pe_lst pa_nil) (nomark _)) (pw_and1 (pt_cmpR op_le (pe_callB call_len_seq (by rfl) T.tl.tc.tn.tw.b_len (by decide +kernel) (pa_cons (pv 2) pa_nil)) (pe_callB call_len_seq (by rfl) T.tl.tc.tn.tw.b_len (by decide +kernel) (pa_cons (pe_ix ix_tup (pv 0) pe_int (fun _ _ => rfl)) pa_nil)) (nomark _)))))
        (pss_cons (ps_set (i := 7) sc_l_due.nd rfl (.inl rfl) (pe_bm0 PySem.F.plainAttrs_list PySem.F.slot_list_pop PySem.F.type_list_pop mt_pop (pv 1)))
        (pss_cons (ps_expr (pe_bm PySem.F.plainAttrs_list PySem.F.slot_list_append PySem.F.type_list_append mt_append (pv 2) (pa_cons (pv 7) pa_nil)))
        (pss_cons (ps_asg (pe_ix ix_list (pe_ix ix_tup (pv 0) pe_int (fun _ _ => rfl)) (pe_op op_sub (pv 7) pe_int) (fun _ _ => rfl)) (pg_tup rfl (pgs_cons (pg_name (i := 3) sc_l_due.nd rfl (.inl rfl)) (pgs_cons (pg_name (i := 4) sc_l_due.nd rfl (.inl rfl)) (pgs_cons (pg_name (i := 5) sc_l_due.nd rfl (.inl rfl)) pgs_nil)))))
        (pss_one (ps_set (i := 1) sc_l_due.nd rfl (.inl rfl) (pe_op op_cat (pe_op op_cat (pv 1) (pe_lc (own := [("_law_value", 6)]) (g := gName 6) rfl sc_l_due.nd (pi_tup (pv 4)) (blkOk_by (N := NLd) (sc := defScope s_l_due) (own := [("_law_value", 6)]) (by decide +kernel)) (fun _ _ _ _ _ => pg_name (i := 6) sc_l_due.nd rfl (Or.inl rfl)) (fun _ _ _ _ _ => pts_one (PW.pt (pw_and (pt_val (pe_callB (id := "isinstance") (r := rIsi K) call_isi (by rfl) T.tl.tc.tn.tw.b_isinstance (by decide +kernel) (pa_cons (pv 6) (pa_cons (pe_bltn (v := .ty "tuple") (by rfl) T.tl.tc.tn.b_tuple (by decide +kernel) rfl) pa_nil)))) (pw_and1 (pt_cmpR op_eq (pe_ix (r := rIxT K) ix_tup (pv 6) pe_int (fun _ _ => rfl)) pe_str (nomark _)))))) (fun _ _ _ _ _ => (pe_ix (r := rIxT K) ix_tup (pv 6) pe_int (fun _ _ => rfl))))) (pe_op op_rep (pe_lst (pa_cons (pv 5) pa_nil)) (pe_callTy call_int1 (by rfl) T.tl.tc.tn.b_int (by decide +kernel) (pa_cons (pe_cmpR op_gt (pv 5) pe_int (nomark _)) pa_nil))))))))))
    (pss_one (ps_ret (pe_cmpR (op_eqD hr.units) (pe_callB cr_sortedI (by rfl) T.b_sorted (by decide +kernel) (pa_cons (pv 2) pa_nil)) (pe_listRg rfl (by rfl) T.tl.tc.tn.tw.b_list (prg_2 (by rfl) T.b_range pe_int (pe_op op_add (pe_callB call_len_seq (by rfl) T.tl.tc.tn.tw.b_len (by decide +kernel) (pa_cons (pe_ix ix_tup (pv 0) pe_int (fun _ _ => rfl)) pa_nil)) pe_int))) (nomark _)))))))), ?_⟩
  obtain ⟨v, d, rfl, hd, ht, q⟩ := h
  refine ⟨_, rfl, v, d, rfl, hd, ht, fun H1 s1 => ⟨_, rfl, ifNo (fun hb => ?_) (fun hb => ?_)⟩⟩
  · have := q _ s1
    rwa [show forestB d = false by unfold forestB; rw [hb]; rfl] at this
  obtain ⟨rs, fr, hh, l, cs, rfl, l64, all, ⟨b1, b2, b3⟩, allc⟩ := form_inv hb
  obtain ⟨t1, t5⟩ := ht _ _ _ _ _ rfl
  obtain ⟨m1, t1⟩ := t1 _ rfl
  obtain ⟨m5, t5⟩ := t5 _ rfl
  have hd1 := hd.same s1 _
  have q1 : ∀ H', Same H1 H' → Q (.bl (forestB (.tuple [.list rs, .int fr, .int hh, .int l, .list cs]))) H' := fun H' z => q _ (s1.trans z)
  have ef : forestB (.tuple [.list rs, .int fr, .int hh, .int l, .list cs]) = @decide (goodW (nextD (.tuple [.list rs, .int fr, .int hh, .int l, .list cs])) (startD (.tuple [.list rs, .int fr, .int hh, .int l, .list cs])) cs.length) (Classical.propDecidable _) := by
    unfold forestB
    rw [hb, Bool.true_and]
    rfl
  rw [ef] at q1
  clear q hd s1 ef
  have estart : startD (.tuple [.list rs, .int fr, .int hh, .int l, .list cs]) = refs rs ++ nz [fr, hh, l] := rfl
  cases hd1 with
  | @tup p xs _ e r =>
  obtain ⟨v1, v2, v3, v4, v5, a1, a2, a3, a4, a5, rfl, ea, h1, h2, h3, h4, h5⟩ := r.five rfl
  simp only [List.cons.injEq, and_true] at ea
  obtain ⟨rfl, rfl, rfl, rfl, rfl⟩ := ea
  cases h2
  cases h3
  cases h4
  cases h1 with
  | @lst pr rv _ er rr =>
  cases h5 with
  | @lst pc cv _ ec rc =>
  have lc := rc.length
  have lr := rr.length
  refine ⟨_, rfl, p, _, _, _, rfl, rfl, SqT.of e, rfl, pr, rfl, ⟨_, SqL.of er⟩, fun D hD => ?_⟩
  refine lc_it (walk_list (K := K) (a := pr) (xs := rv)) (fun j H' => Same H1 H' ∧ H' D = some (.lst ((refs (rs.take j)).map V.int))) ⟨same_new hD, upd_same⟩ (fun i H' _ z => SqL.of (z.1 _ _ er)) ?_ ?_
  · rintro j x H2 H3 hj ⟨s2, hd⟩ ⟨rfl, hx⟩
    obtain ⟨d, hdj, dx⟩ := rr.all1 hx
    have rt := refs_take hdj
    have lr : (refs (rs.take j)).length ≤ j := Nat.le_trans (List.length_filterMap_le ..) (by rw [List.length_take]; omega)
    refine ⟨rfl, ?_⟩
    refine ⟨_, rfl, _, _, _, _, _, rfl, .ty _, (dx.same s2 _).ty, kit_ty (kit_t d), _, rfl, ?_⟩
    rcases cont_cases (all _ (List.mem_of_getElem? hdj)) with ⟨e1, e2⟩ | ⟨y, rfl, e2⟩ | ⟨z, i, rfl, nb, e2, _⟩
    · rw [e1]
      refine iteF (iteF ⟨s2, ?_⟩)
      rw [hd, rt, e2, List.append_nil]
    · cases dx with
      | @tup t ys _ et rt' =>
        cases rt' with
        | cons h1 h2 =>
          cases h1
          refine iteT ⟨_, rfl, t, _, 0, _, rfl, rfl, SqT.of (s2 _ _ et), atI_nat (j := 0) rfl, rfl, _, rfl, neN ⟨s2, ?_⟩⟩
          rw [hd, rt, e2, List.append_nil]
    · cases dx with
      | @tup t ys _ et rt' =>
        cases rt' with
        | cons h1 h2 =>
          cases h1
          cases h2 with
          | cons h3 h4 =>
            cases h3
            cases h4
            refine iteT ⟨_, rfl, t, _, 0, _, rfl, rfl, SqT.of (s2 _ _ et), rfl, rfl, _, rfl, ?_⟩
            rw [decide_eq_false fun e => nb (V.str.inj e)]
            refine iteT ⟨_, rfl, t, _, 1, _, rfl, rfl, SqT.of (s2 _ _ et), rfl, _, hd, ?_, ?_, ?_⟩
            · rw [List.length_map]
              exact small1000' (by omega)
            · intro b' o e
              rw [upd_ne (ne_of_none e hD)]
              exact s2 _ _ e
            · rw [upd_same, rt, e2, List.map_append]
              rfl
  rintro H2 ⟨s2, hD2⟩
  rw [lr, List.take_length] at hD2
  refine ⟨_, rfl, 1, rfl, 4, rfl, p, _, rfl, SqT.of (s2 _ _ e), (fun z => absurd (show HT.sIx 5 0 (some 1) = 0 from z.1) (by decide)), fun sp nsp => ?_⟩
  have s3 := s2.trans (same_new (o := .tup (cutV [.ref pr, .int fr, .int hh, .int l, .ref pc] (some 1) (some 4))) nsp)
  have hD3 := same_new (o := .tup (cutV [.ref pr, .int fr, .int hh, .int l, .ref pc] (some 1) (some 4))) nsp _ _ hD2
  have esp : (upd H2 sp (.tup (cutV [.ref pr, .int fr, .int hh, .int l, .ref pc] (some 1) (some 4)))) sp = some (.tup (([fr, hh, l] : List Int).map V.int)) := upd_same
  generalize upd H2 sp (.tup (cutV [.ref pr, .int fr, .int hh, .int l, .ref pc] (some 1) (some 4))) = H3 at s3 esp hD3 ⊢
  refine ⟨sp, rfl, ⟨_, SqT.of esp⟩, fun D2 hD2' => ?_⟩
  refine lc_it (walk_tup (K := K) (a := sp) (xs := ([fr, hh, l] : List Int).map V.int)) (fun j H' => Same H3 H' ∧ H' D2 = some (.lst ((nz (([fr, hh, l] : List Int).take j)).map V.int))) ⟨same_new hD2', upd_same⟩ (fun i H' _ z => SqT.of (z.1 _ _ esp)) ?_ ?_
  · rintro j x H4 H5 hj ⟨s4, hd2⟩ ⟨rfl, hx⟩
    rw [List.length_map] at hj
    have hlj : ([fr, hh, l] : List Int)[j]? = some ([fr, hh, l] : List Int)[j] := List.getElem?_eq_getElem hj
    have hm : ([fr, hh, l] : List Int)[j] ∈ ([fr, hh, l] : List Int) := List.getElem_mem hj
    rw [List.getElem?_map, hlj] at hx
    obtain rfl : V.int ([fr, hh, l] : List Int)[j] = x := Option.some.inj hx
    generalize ([fr, hh, l] : List Int)[j] = y at hlj hm
    have hy0 : 0 ≤ y := by
      simp only [List.mem_cons, List.not_mem_nil, or_false] at hm
      rcases hm with rfl | rfl | rfl
      · exact b1.1
      · exact b2.1
      · exact b3.1
    have nt := nz_take hlj
    have hj3 : j < 3 := hj
    have ln : (nz (([fr, hh, l] : List Int).take j)).length ≤ j := Nat.le_trans (List.length_filter_le ..) (by rw [List.length_take]; omega)
    refine ⟨rfl, ?_⟩
    refine ⟨_, rfl, _, _, rfl, rfl, _, rfl, ifGt (fun hg => ?_) (fun hg => ?_)⟩
    · refine ⟨_, rfl, _, hd2, ?_, ?_, ?_⟩
      · rw [List.length_map]
        exact small1000' (by omega)
      · intro b' o e
        rw [upd_ne (ne_of_none e hD2')]
        exact s4 _ _ e
      · rw [upd_same, nt, if_neg (by omega), List.map_append]
        rfl
    · refine ⟨s4, ?_⟩
      rw [hd2, nt, if_pos (by omega), List.append_nil]
  rintro H4 ⟨s4, hD4⟩
  rw [List.length_map, List.take_length] at hD4
  refine ⟨D, D2, _, _, rfl, rfl, s4 _ _ hD3, hD4, ?_, fun W nW => ?_⟩
  · rw [List.length_map, List.length_map]
    have h1 := refs_len rs
    have h2 := nz_len [fr, hh, l]
    simp only [List.length_cons, List.length_nil] at h2
    exact Nat.le_of_lt (small1000' (by omega))
  have s5 := (s3.trans s4).trans (same_new (o := .lst ((refs rs).map V.int ++ (nz [fr, hh, l]).map V.int)) nW)
  have hW : (upd H4 W (.lst ((refs rs).map V.int ++ (nz [fr, hh, l]).map V.int))) W = some (.lst ((refs rs ++ nz [fr, hh, l]).map V.int)) := by rw [upd_same, List.map_append]
  have nW1 := (s3.trans s4).free nW
  generalize upd H4 W (.lst ((refs rs).map V.int ++ (nz [fr, hh, l]).map V.int)) = H5 at s5 hW ⊢
  refine ⟨Nat.zero_le _, fun S nS => ?_⟩
  have s6 := s5.trans (same_new (o := .lst []) nS)
  have hW6 := same_new (o := .lst []) nS _ _ hW
  have hS6 : (upd H5 S (.lst [])) S = some (.lst (([] : List Int).map V.int)) := upd_same
  have nS1 := s5.free nS
  have nWS : W ≠ S := ne_of_none hW nS
  generalize upd H5 S (.lst []) = H6 at s6 hW6 hS6 ⊢
  have sin : ∀ x ∈ refs rs ++ nz [fr, hh, l], 1 ≤ x ∧ x ≤ (cs.length : Int) := fun x hx => (List.mem_append.mp hx).elim (refs_in all x) (nz_in (fun y hy => by
    simp only [List.mem_cons, List.not_mem_nil, or_false] at hy
    rcases hy with rfl | rfl | rfl
    · exact b1
    · exact b2
    · exact b3) x)
  have slen : (refs rs ++ nz [fr, hh, l]).length ≤ 70 := by
    have := refs_len rs
    have h2 := nz_len [fr, hh, l]
    rw [List.length_append]
    simp only [List.length_cons, List.length_nil] at h2
    omega
  refine ⟨WLd (.tuple [.list rs, .int fr, .int hh, .int l, .list cs]) (.ref p) H1, ⟨_, none, none, none, none, S, W, 0, refs rs ++ nz [fr, hh, l], [], rfl, rfl, s6, nW1, nS1, nWS, hW6, hS6, rfl, sin, fun x hx => (by cases hx), slen, Nat.zero_le _⟩, ?_⟩
  clear hW6 hS6 hW s6 s5 s4 hD4 esp hD3 s3 hD2 s2 nS1 nS nW1 nW nWS slen sin nsp
  rintro m σ H7 ⟨x3, x4, x5, x7, S', W', k, Wl, F, rfl, rfl, s7, nW, nS, nWS, hW, hS, it, inW, inF, lW, lF⟩
  simp only [show (cellsD (.tuple [.list rs, .int fr, .int hh, .int l, .list cs])).length = cs.length from rfl] at inW inF lF ⊢
  refine ⟨_, rfl, Nat.zero_le _, fun le nle => ?_⟩
  have s8 := s7.trans (same_new (o := .lst []) nle)
  have hW8 := same_new (o := .lst []) nle _ _ hW
  have hS8 := same_new (o := .lst []) nle _ _ hS
  have hle : (upd H7 le (.lst [])) le = some (.lst []) := upd_same
  generalize upd H7 le (.lst []) = H8 at s8 hW8 hS8 hle ⊢
  refine ⟨W', le, _, rfl, rfl, hW8, hle, _, rfl, ?_⟩
  clear hle nle
  by_cases hWl : Wl = []
  · subst hWl
    refine iteF ?_
    refine ⟨_, rfl, S', F, rfl, SqL.of hS8, fun ns ps perm srt nps => ?_⟩
    have s9 := s8.trans (same_new (o := .lst (ns.map V.int)) nps)
    have hps : (upd H8 ps (.lst (ns.map V.int))) ps = some (.lst (ns.map V.int)) := upd_same
    generalize upd H8 ps (.lst (ns.map V.int)) = H9 at s9 hps ⊢
    refine ⟨_, rfl, p, _, _, _, rfl, rfl, SqT.of (s9 _ _ e), rfl, pc, cv, rfl, .inl (SqL.of (s9 _ _ ec)), _, _, rfl, rfl, _, _, rfl, rfl, ?_, fun u nu => ?_⟩
    · rw [lc]
      exact RgOk.of_le (by decide) (by omega) (by decide) (by omega)
    · rw [lc, rg_upTo]
      have lns : ns.length < 1000 := by rw [perm.length_eq]; omega
      have ok1 := okd_ints lns
      have ok2 := okd_ints (ns := upTo cs.length) (by rw [upTo_len]; omega)
      refine ⟨.list (ns.map .int), .list ((upTo cs.length).map .int), DT.dp (good_plain _ ok1.good) (.lst (same_new nu _ _ hps) (dts_ints _)), DT.dp (good_plain _ ok2.good) (.lst upd_same (dts_ints _)), ok1.shaped, ok2.shaped, ?_⟩
      rw [eqv_ints]
      have q2 := q1 _ (s9.trans (same_new (o := .lst ((upTo cs.length).map V.int)) nu))
      have gs := good_sorted (n := cs.length) it (.inl rfl) inF perm srt
      have eb : decide (ns = upTo cs.length) = @decide (goodW (nextD (.tuple [.list rs, .int fr, .int hh, .int l, .list cs])) (startD (.tuple [.list rs, .int fr, .int hh, .int l, .list cs])) cs.length) (Classical.propDecidable _) := by
        by_cases g : ns = upTo cs.length
        · rw [decide_eq_true g, @decide_eq_true _ (Classical.propDecidable _) (gs.mpr g)]
        · rw [decide_eq_false g, @decide_eq_false _ (Classical.propDecidable _) (fun z => g (gs.mp z))]
      rw [eb]
      exact q2
  · have hne : (!(Wl.map V.int).isEmpty) = true := by
      cases Wl with
      | nil => exact absurd rfl hWl
      | cons a b => rfl
    rw [hne]
    refine iteT ⟨_, rfl, S', _, rfl, .inl (SqL.of hS8), _, rfl, p, _, _, _, rfl, rfl, SqT.of (s8 _ _ e), rfl, pc, cv, rfl, .inl (SqL.of (s8 _ _ ec)), _, _, rfl, rfl, _, rfl, ?_⟩
    rw [List.length_map, lc]
    by_cases hF : F.length ≤ cs.length
    · rw [decide_eq_true (show (F.length : Int) ≤ (cs.length : Int) by omega)]
      obtain ⟨w', x, rfl⟩ : ∃ w' x, Wl = w' ++ [x] := ⟨Wl.dropLast, Wl.getLast hWl, (List.dropLast_concat_getLast hWl).symm⟩
      have hx : 1 ≤ x ∧ x ≤ (cs.length : Int) := inW x (by simp)
      clear hne hWl
      refine iteT ⟨WLd (.tuple [.list rs, .int fr, .int hh, .int l, .list cs]) (.ref p) H1 (cs.length + 2 - (F.length + 1)), fun σ' H' z => ⟨_, by show _ < cs.length + 2 - F.length; omega, z⟩, ?_⟩
      refine ⟨_, rfl, .inl ⟨rfl, _, SqL.of hW8⟩, W', _, .int x, rfl, rfl, hW8, by simp, ?_⟩
      have edl : ((w' ++ [x]).map V.int).dropLast = w'.map V.int := by simp
      rw [edl]
      have hS9 : (upd H8 W' (.lst (w'.map V.int))) S' = some (.lst (F.map V.int)) := by rw [upd_ne nWS.symm]; exact hS8
      have hW9 : (upd H8 W' (.lst (w'.map V.int))) W' = some (.lst (w'.map V.int)) := upd_same
      have s9 : Same H1 (upd H8 W' (.lst (w'.map V.int))) := fun b o e => by
        rw [upd_ne (ne_of_none e nW)]
        exact s8 _ _ e
      generalize upd H8 W' (.lst (w'.map V.int)) = H9 at hS9 hW9 s9 ⊢
      refine ⟨_, rfl, .inl ⟨rfl, _, SqL.of hS9⟩, _, rfl, ?_⟩
      refine ⟨S', _, .int x, rfl, rfl, hS9, ?_, ?_⟩
      · rw [List.length_map]
        exact small1000' (by omega)
      have eF : F.map V.int ++ [V.int x] = (F ++ [x]).map V.int := by simp
      rw [eF]
      have hS10 : (upd H9 S' (.lst ((F ++ [x]).map V.int))) S' = some (.lst ((F ++ [x]).map V.int)) := upd_same
      have hW10 : (upd H9 S' (.lst ((F ++ [x]).map V.int))) W' = some (.lst (w'.map V.int)) := by rw [upd_ne nWS]; exact hW9
      have s10 : Same H1 (upd H9 S' (.lst ((F ++ [x]).map V.int))) := fun b o e => by
        rw [upd_ne (ne_of_none e nS)]
        exact s9 _ _ e
      generalize upd H9 S' (.lst ((F ++ [x]).map V.int)) = H10 at hS10 hW10 s10 ⊢
      obtain ⟨j, ej⟩ : ∃ j : Nat, x - 1 = (j : Int) := ⟨(x - 1).toNat, by omega⟩
      have lj : j < cs.length := by omega
      have hcv : cv[j]? = some (cv[j]'(by omega)) := List.getElem?_eq_getElem (by omega)
      have hcs : cs[j]? = some cs[j] := List.getElem?_eq_getElem lj
      have dc := rc.get hcv hcs
      have cm : cs[j] ∈ cs := List.getElem_mem lj
      obtain ⟨mk, xs, lk, ecj, k0, k1, k4, kall⟩ := cell_inv (allc _ cm)
      have enx : nextD (.tuple [.list rs, .int fr, .int hh, .int l, .list cs]) x = refs xs ++ nz [lk] := by
        show (match cs[(x - 1).toNat]? with
          | some c => nextC c
          | none => []) = _
        rw [ej, Int.toNat_natCast, hcs, ecj]
        rfl
      rw [ecj] at dc
      generalize cv[j]'(by omega) = cx at hcv dc
      cases dc with
      | @tup tx txs _ et rt =>
      obtain ⟨y1, y2, y3, c1, c2, c3, rfl, ecc, g1, g2, g3⟩ := rt.three rfl
      simp only [List.cons.injEq, and_true] at ecc
      obtain ⟨rfl, rfl, rfl⟩ := ecc
      cases g3
      cases g2 with
      | @tup ty tys _ ety rty =>
      have lty := rty.length
      have hat : atI cv (x - 1) = some (.ref tx) := by
        rw [ej]
        exact atI_nat hcv
      refine ⟨_, rfl, p, _, _, _, rfl, rfl, SqT.of (s10 _ _ e), rfl, _, rfl, _, _, rfl, rfl, pc, cv, x - 1, _, rfl, rfl, SqL.of (s10 _ _ ec), hat, tx, _, rfl, SqT.of (s10 _ _ et), rfl, _, _, rfl, _, _, rfl, _, _, rfl, rfl, ?_⟩
      refine ⟨_, rfl, _, rfl, _, rfl, ⟨_, SqT.of (s10 _ _ ety)⟩, fun D3 hD3 => ?_⟩
      refine lc_it (walk_tup (K := K) (a := ty) (xs := tys)) (fun j H' => Same H10 H' ∧ H' D3 = some (.lst ((refs (xs.take j)).map V.int))) ⟨same_new hD3, upd_same⟩ (fun i H' _ z => SqT.of (z.1 _ _ (s10 _ _ ety))) ?_ ?_
      · rintro i y H2 H3 hi ⟨s2, hd⟩ ⟨rfl, hy⟩
        obtain ⟨d, hdj, dx⟩ := rty.all1 hy
        have dx := (dx.same s10 _).same s2 _
        have rt := refs_take hdj
        have lr : (refs (xs.take i)).length ≤ i := Nat.le_trans (List.length_filterMap_le ..) (by rw [List.length_take]; omega)
        refine ⟨rfl, ?_⟩
        refine ⟨_, rfl, _, _, _, _, _, rfl, .ty _, dx.ty, kit_ty (kit_t d), _, rfl, ?_⟩
        rcases cont_cases (kall _ (List.mem_of_getElem? hdj)) with ⟨e1, e2⟩ | ⟨y, rfl, e2⟩ | ⟨z, q, rfl, nb, e2, _, _, hz⟩
        · rw [e1]
          refine iteF (iteF ⟨s2, ?_⟩)
          rw [hd, rt, e2, List.append_nil]
        · cases dx with
          | @tup t ys _ et rt' =>
            cases rt' with
            | cons h1 h2 =>
              cases h1
              refine iteT ⟨_, rfl, t, _, 0, _, rfl, rfl, SqT.of et, atI_nat (j := 0) rfl, rfl, _, rfl, ?_⟩
              rw [decide_eq_false fun e => absurd (V.str.inj e) (by decide)]
              refine iteF ⟨s2, ?_⟩
              rw [hd, rt, e2, List.append_nil]
        · cases dx with
          | @tup t ys _ et rt' =>
            cases rt' with
            | cons h1 h2 =>
              cases h1
              cases h2 with
              | cons h3 h4 =>
                cases h3
                cases h4
                obtain rfl := hz rfl
                refine iteT ⟨_, rfl, t, _, 0, _, rfl, rfl, SqT.of et, rfl, rfl, _, rfl, ?_⟩
                rw [decide_eq_true rfl]
                refine iteT ⟨_, rfl, t, _, 1, _, rfl, rfl, SqT.of et, rfl, _, hd, ?_, ?_, ?_⟩
                · rw [List.length_map]
                  exact small1000' (by omega)
                · intro b' o e
                  rw [upd_ne (ne_of_none e hD3)]
                  exact s2 _ _ e
                · rw [upd_same, rt, e2, List.map_append]
                  rfl
      rintro H11 ⟨s11, hD11⟩
      rw [lty, List.take_length] at hD11
      have lr3 := refs_len xs
      have lw' : w'.length ≤ 70 + 5 * F.length := by
        rw [List.length_append, List.length_singleton] at lW
        omega
      refine ⟨W', D3, _, _, rfl, rfl, s11 _ _ hW10, hD11, ?_, fun p1 np1 => ?_⟩
      · rw [List.length_map, List.length_map]
        exact Nat.le_of_lt (small1000' (by omega))
      have s12 := s11.trans (same_new (o := .lst (w'.map V.int ++ (refs xs).map V.int)) np1)
      have hp1 : (upd H11 p1 (.lst (w'.map V.int ++ (refs xs).map V.int))) p1 = some (.lst ((w' ++ refs xs).map V.int)) := by rw [upd_same, List.map_append]
      generalize upd H11 p1 (.lst (w'.map V.int ++ (refs xs).map V.int)) = H12 at s12 hp1 ⊢
      refine ⟨_, rfl, (show 1 ≤ sizeLine by decide), fun l1 nl1 => ?_⟩
      have s13 := s12.trans (same_new (o := .lst [.int lk]) nl1)
      have hp13 := same_new (o := .lst [.int lk]) nl1 _ _ hp1
      have hl1 : (upd H12 l1 (.lst [.int lk])) l1 = some (.lst [.int lk]) := upd_same
      generalize upd H12 l1 (.lst [.int lk]) = H13 at s13 hp13 hl1 ⊢
      refine ⟨_, rfl, _, _, rfl, rfl, .inr ⟨_, rfl, l1, _, _, rfl, rfl, hl1, ?_, ?_, ?_, fun p2 np2 => ?_⟩⟩
      · split <;> decide
      · split <;> decide
      · split
        · exact (show 1 * 1 ≤ sizeLine by decide)
        · exact (show 1 * 0 ≤ sizeLine by decide)
      have enz : (List.replicate (Int.toNat (if decide (0 < lk) = true then 1 else 0)) [V.int lk]).flatten = (nz [lk]).map V.int := by
        by_cases hk : 0 < lk
        · rw [if_pos (decide_eq_true hk)]
          have : nz [lk] = [lk] := by simp [nz]; omega
          rw [this]
          rfl
        · rw [if_neg (by simpa using hk)]
          have : nz [lk] = [] := by simp [nz]; omega
          rw [this]
          rfl
      rw [enz]
      have s14 := s13.trans (same_new (o := .lst ((nz [lk]).map V.int)) np2)
      have hp14 := same_new (o := .lst ((nz [lk]).map V.int)) np2 _ _ hp13
      have hp2 : (upd H13 p2 (.lst ((nz [lk]).map V.int))) p2 = some (.lst ((nz [lk]).map V.int)) := upd_same
      generalize upd H13 p2 (.lst ((nz [lk]).map V.int)) = H14 at s14 hp14 hp2 ⊢
      have ln1 : (nz [lk]).length ≤ 1 := nz_len [lk]
      refine ⟨p1, p2, _, _, rfl, rfl, hp14, hp2, ?_, fun W2 nW2 => ?_⟩
      · rw [List.length_map, List.length_map, List.length_append]
        exact Nat.le_of_lt (small1000' (by omega))
      have s15 := (s10.trans s14)
      have s16 := s15.trans (same_new (o := .lst ((w' ++ refs xs).map V.int ++ (nz [lk]).map V.int)) nW2)
      have hS14 := s14 _ _ hS10
      refine ⟨_, _, _, _, S', W2, k + 1, w' ++ (refs xs ++ nz [lk]), F ++ [x], rfl, ?_, s16, s15.free nW2, nS, (ne_of_none hS14 nW2).symm, ?_, same_new nW2 _ _ hS14, ?_, ?_, ?_, ?_, ?_⟩
      · rw [List.length_append, List.length_singleton]
        rfl
      · rw [upd_same]
        simp
      · rw [← enx]
        exact iter_next it
      · intro y hy
        rcases List.mem_append.mp hy with hy | hy
        · exact inW y (List.mem_append_left _ hy)
        · exact (List.mem_append.mp hy).elim (refs_in kall y) (nz_in (fun z hz => by rw [List.mem_singleton.mp hz]; exact ⟨k0, k1⟩) y)
      · intro y hy
        rcases List.mem_append.mp hy with hy | hy
        · exact inF y hy
        · rw [List.mem_singleton.mp hy]
          exact hx
      · have e1 : (w' ++ (refs xs ++ nz [lk])).length = w'.length + (refs xs ++ nz [lk]).length := List.length_append
        have e2 : (F ++ [x]).length = F.length + 1 := by simp
        have e3 : (refs xs ++ nz [lk]).length = (refs xs).length + (nz [lk]).length := List.length_append
        omega
      · have e2 : (F ++ [x]).length = F.length + 1 := by simp
        show (F ++ [x]).length ≤ cs.length + 1
        omega
    · rw [decide_eq_false (show ¬ (F.length : Int) ≤ (cs.length : Int) by omega)]
      refine iteF ?_
      refine ⟨_, rfl, S', F, rfl, SqL.of hS8, fun ns ps perm srt nps => ?_⟩
      have s9 := s8.trans (same_new (o := .lst (ns.map V.int)) nps)
      have hps : (upd H8 ps (.lst (ns.map V.int))) ps = some (.lst (ns.map V.int)) := upd_same
      generalize upd H8 ps (.lst (ns.map V.int)) = H9 at s9 hps ⊢
      refine ⟨_, rfl, p, _, _, _, rfl, rfl, SqT.of (s9 _ _ e), rfl, pc, cv, rfl, .inl (SqL.of (s9 _ _ ec)), _, _, rfl, rfl, _, _, rfl, rfl, ?_, fun u nu => ?_⟩
      · rw [lc]
        exact RgOk.of_le (by decide) (by omega) (by decide) (by omega)
      · rw [lc, rg_upTo]
        have lns : ns.length < 1000 := by rw [perm.length_eq]; omega
        have ok1 := okd_ints lns
        have ok2 := okd_ints (ns := upTo cs.length) (by rw [upTo_len]; omega)
        refine ⟨.list (ns.map .int), .list ((upTo cs.length).map .int), DT.dp (good_plain _ ok1.good) (.lst (same_new nu _ _ hps) (dts_ints _)), DT.dp (good_plain _ ok2.good) (.lst upd_same (dts_ints _)), ok1.shaped, ok2.shaped, ?_⟩
        rw [eqv_ints]
        have q2 := q1 _ (s9.trans (same_new (o := .lst ((upTo cs.length).map V.int)) nu))
        have gs := good_sorted (n := cs.length) it (.inr (by omega)) inF perm srt
        have eb : decide (ns = upTo cs.length) = @decide (goodW (nextD (.tuple [.list rs, .int fr, .int hh, .int l, .list cs])) (startD (.tuple [.list rs, .int fr, .int hh, .int l, .list cs])) cs.length) (Classical.propDecidable _) := by
          by_cases g : ns = upTo cs.length
          · rw [decide_eq_true g, @decide_eq_true _ (Classical.propDecidable _) (gs.mpr g)]
          · rw [decide_eq_false g, @decide_eq_false _ (Classical.propDecidable _) (fun z => g (gs.mp z))]
        rw [eb]
        exact q2
theorem c_l_due (T : TLd K w mg) : Says P w K mg base 6 "_law_due" ["_law_picture"] sp_forest := says T.d_l_due sc_l_due (fun vs H Q E h => by obtain ⟨_, _, rfl, _⟩ := h; rfl) (b_l_due T)
end
end Cb
set_option Elab.async false
set_option linter.all false
set_option maxRecDepth 100000
set_option maxHeartbeats 4000000
namespace Cb
open PySem PySem.Spec PyProof.Rows L2
/-! ### the generator goes on -/
def Gn (g : Addr) (s t0 : Int) (n : Nat) (H : Hp) : Prop := ∃ a t : Int, H g = some (gen a s t) ∧ t0 ≤ t ∧ t ≤ t0 + n
theorem Gn.mono {g : Addr} {s t0 : Int} {n m : Nat} {H : Hp} (G : Gn g s t0 n H) (h : n ≤ m) : Gn g s t0 m H := by
  obtain ⟨a, t, e, l1, l2⟩ := G
  exact ⟨a, t, e, l1, by omega⟩
theorem Gn.some {g : Addr} {s t0 : Int} {n : Nat} {H : Hp} (G : Gn g s t0 n H) {p : Addr} (h : H p = none) : p ≠ g := by
  obtain ⟨a, t, e, _⟩ := G
  exact (ne_of_none e h).symm
theorem Gn.new {g : Addr} {s t0 : Int} {n : Nat} {H : Hp} (G : Gn g s t0 n H) {p : Addr} {o : HO} (h : H p = none) : Gn g s t0 n (upd H p o) := by
  obtain ⟨a, t, e, l⟩ := G
  exact ⟨a, t, same_new h _ _ e, l⟩
theorem Gn.off {g : Addr} {s t0 : Int} {n : Nat} {H : Hp} (G : Gn g s t0 n H) {p : Addr} {o : HO} (h : g ≠ p) : Gn g s t0 n (upd H p o) := by
  obtain ⟨a, t, e, l⟩ := G
  exact ⟨a, t, (upd_ne h).trans e, l⟩
theorem Gn.same {g : Addr} {s t0 : Int} {n : Nat} {H H' : Hp} (G : Gn g s t0 n H) (k : Same H H') : Gn g s t0 n H' := by
  obtain ⟨a, t, e, l⟩ := G
  exact ⟨a, t, k _ _ e, l⟩
theorem draw {g : Addr} {s t0 : Int} {n : Nat} {H : Hp} {b : Int} {Q : VK} {E : XK} (G : Gn g s t0 n H) (h0 : 0 ≤ t0) (h1 : t0 + n < 2 ^ 62) (b0 : 0 < b) (b1 : b.natAbs < 2 ^ 210)
    (q : ∀ (r : Int) (H' : Hp), 0 ≤ r → r < b → Gn g s t0 (n + 8) H' → Keep [g] H H' → Q (.int r) H') : sp_l_random [.ref g, .int b] H Q E := by
  obtain ⟨a, t, e, l1, l2⟩ := G
  unfold sp_l_random
  refine ⟨g, a, s, t, b, rfl, e, b0, b1, by omega, by omega, fun r a' t' r0 r1 t2 t3 => ?_⟩
  exact q r _ r0 r1 ⟨a', t', upd_same, by omega, by omega⟩ (keep_upd (by simp))
theorem new_g {g z : Addr} {H : Hp} (hg : ∃ o, H g = some o) (nz : H z = none) : z ≠ g := by
  obtain ⟨o, e⟩ := hg
  exact (ne_of_none e nz).symm
theorem dt_lst {g z : Addr} {H : Hp} {xs : List V} {ds : List PyData} (hg : ∃ o, H g = some o) (nz : H z = none) (d : DTs (hid [g] H) xs ds) : Same H (upd H z (.lst xs)) ∧ DT (hid [g] (upd H z (.lst xs))) (.ref z) (.list ds) := by
  have s := same_new (o := .lst xs) nz
  exact ⟨s, .lst (hid_at (nin1 (new_g hg nz)) upd_same) (d.same (hidS s) _)⟩
theorem dt_tup {g z : Addr} {H : Hp} {xs : List V} {ds : List PyData} (hg : ∃ o, H g = some o) (nz : H z = none) (d : DTs (hid [g] H) xs ds) : Same H (upd H z (.tup xs)) ∧ DT (hid [g] (upd H z (.tup xs))) (.ref z) (.tuple ds) := by
  have s := same_new (o := .tup xs) nz
  exact ⟨s, .tup (hid_at (nin1 (new_g hg nz)) upd_same) (d.same (hidS s) _)⟩
theorem ex_same {g : Addr} {H H' : Hp} (hg : ∃ o, H g = some o) (s : Same H H') : ∃ o, H' g = some o := by
  obtain ⟨o, e⟩ := hg
  exact ⟨o, s _ _ e⟩
theorem DTs.dropd {H : Hp} : ∀ {xs : List V} {ds : List PyData} (n : Nat), DTs H xs ds → DTs H (xs.drop n) (ds.drop n)
  | _, _, 0, h => h
  | _, [], _ + 1, h => by cases h; exact .nil
  | _, d :: ds, n + 1, h => by
    cases h with
    | cons a r => exact DTs.dropd (ds := ds) n r
theorem DTs.taked {H : Hp} : ∀ {xs : List V} {ds : List PyData} (n : Nat), DTs H xs ds → DTs H (xs.take n) (ds.take n)
  | _, _, 0, _ => .nil
  | _, [], _ + 1, h => by cases h; exact .nil
  | _, d :: ds, n + 1, h => by
    cases h with
    | cons a r => exact .cons a (DTs.taked (ds := ds) n r)
theorem cut_d1 (xs : List V) : cutV xs (some 1) none = xs.drop 1 := by
  unfold cutV
  rw [show HT.sIx xs.length 0 (some 1) = min 1 xs.length from HT.sIx_nat _ _ 1, show HT.sIx xs.length xs.length none = xs.length from HT.sIx_none _ _]
  cases xs with
  | nil => rfl
  | cons x r => simp
theorem DT.lst' {H : Hp} {a : Addr} {ds : List PyData} (h : DT H (.ref a) (.list ds)) : ∃ xs, H a = some (.lst xs) ∧ DTs H xs ds := by
  cases h with
  | lst e r => exact ⟨_, e, r⟩
theorem dt_dct {g z : Addr} {H : Hp} (hg : ∃ o, H g = some o) (nz : H z = none) : Same H (upd H z (.dK [])) ∧ DT (hid [g] (upd H z (.dK []))) (.ref z) (.dict []) :=
  ⟨same_new nz, .dct (hid_at (nin1 (new_g hg nz)) upd_same)⟩

/-! ### bounded data -/
structure Gd (n k : Nat) (d : PyData) : Prop where
  shw : d.showable = true
  lv : d.leavesShort 40 = true
  dep : d.depth ≤ k
  wgt : d.weight ≤ n
theorem Gd.mono {n k m j : Nat} {d : PyData} (g : Gd n k d) (h : n ≤ m) (h2 : k ≤ j) : Gd m j d := ⟨g.shw, g.lv, Nat.le_trans g.dep h2, Nat.le_trans g.wgt h⟩
theorem gd_none {n k : Nat} : Gd n k .none := ⟨by simp [PyData.showable], by simp [PyData.leavesShort], by simp [PyData.depth], by simp [PyData.weight]⟩
theorem gd_bool {n k : Nat} (b : Bool) : Gd n k (.bool b) := ⟨by simp [PyData.showable], by simp [PyData.leavesShort], by simp [PyData.depth], by simp [PyData.weight]⟩
theorem gd_int {n k : Nat} {i : Int} (h : i.natAbs < 2 ^ 64) (hn : 70 ≤ n) : Gd n k (.int i) := by
  have lg : i.natAbs.log2 < 64 := PySem.Flt.log2_lt_of (by decide) h
  refine ⟨?_, ?_, by simp [PyData.depth], ?_⟩
  · simp only [PyData.showable]
    exact decide_eq_true (by omega)
  · have e := int_text_length_le10 (k := 20) (by decide) (a := i) (by omega)
    have : (PyData.shown (.int i)).length ≤ 40 := by
      show (Str.ofString (toString i)).length ≤ 40
      rw [PySem.ofString_length]
      omega
    simp only [PyData.leavesShort]
    exact decide_eq_true this
  · simp only [PyData.weight]
    split
    · omega
    · omega
theorem gd_str {n k : Nat} {z : Str} (h : (z.cps.toList.all fun c => decide (c < 16 ^ 8)) = true) (h2 : z.cps.size ≤ n) : Gd n k (.str z) := ⟨by simp [PyData.showable], by simp only [PyData.leavesShort]; exact h, by simp [PyData.depth], by simp only [PyData.weight]; exact h2⟩
theorem gd_dict {n k : Nat} (h : 1 ≤ k) : Gd n k (.dict []) := ⟨by simp [PyData.showable, PyData.showableKv], by simp [PyData.leavesShort, PyData.leavesShortKv], by simp [PyData.depth, PyData.depthKv]; exact h, by simp [PyData.weight, PyData.weightKv]⟩
theorem lvAll {ds : List PyData} (h : ∀ d ∈ ds, d.leavesShort 40 = true) : PyData.leavesShortAll 40 ds = true := by
  induction ds with
  | nil => simp [PyData.leavesShortAll]
  | cons d ds ih => simp [PyData.leavesShortAll, h d (List.mem_cons_self ..), ih fun e he => h e (List.mem_cons_of_mem _ he)]
theorem gd_all {n k m : Nat} {ds : List PyData} (h : ∀ d ∈ ds, Gd n k d) (l : ds.length ≤ m) : PyData.showableAll ds = true ∧ PyData.leavesShortAll 40 ds = true ∧ PyData.depthAll ds ≤ k ∧ PyData.weightAll ds ≤ m * (n + 1) :=
  ⟨showAll_of fun d hd => (h d hd).shw, lvAll fun d hd => (h d hd).lv, depthAll_le fun d hd => (h d hd).dep, Nat.le_trans (weightAll_le fun d hd => (h d hd).wgt) (Nat.mul_le_mul_right _ l)⟩
theorem gd_list {n k N j : Nat} (m : Nat) {ds : List PyData} (h : ∀ d ∈ ds, Gd n k d) (l : ds.length ≤ m) (hN : m * (n + 1) ≤ N) (hj : k + 1 ≤ j) : Gd N j (.list ds) := by
  obtain ⟨a, b, c, e⟩ := gd_all h l
  exact ⟨by simp only [PyData.showable]; exact a, by simp only [PyData.leavesShort]; exact b, by simp only [PyData.depth]; omega, by simp only [PyData.weight]; omega⟩
theorem gd_tup {n k N j : Nat} (m : Nat) {ds : List PyData} (h : ∀ d ∈ ds, Gd n k d) (l : ds.length ≤ m) (hN : m * (n + 1) ≤ N) (hj : k + 1 ≤ j) : Gd N j (.tuple ds) := by
  obtain ⟨a, b, c, e⟩ := gd_all h l
  exact ⟨by simp only [PyData.showable]; exact a, by simp only [PyData.leavesShort]; exact b, by simp only [PyData.depth]; omega, by simp only [PyData.weight]; omega⟩
theorem Gd.len {n k : Nat} {d : PyData} (g : Gd n k d) (h : n ≤ 300000) : d.shown.length ≤ sizeLine := by
  have h1 := PyData.shown_le 40 (by decide) d g.lv
  have h2 := g.wgt
  have h3 : (40 + 2) * d.weight ≤ 42 * 300000 := Nat.mul_le_mul (by decide) (by omega)
  rw [sizeLine_eq]
  omega
/-! ### contents, cells, pictures that are told of -/
def okc (d : PyData) : Prop := tc d ∧ Gd 200 3 d
def okcell (c : PyData) : Prop := Gd 3100 5 c ∧ ∀ m xs l, c = .tuple [m, .tuple xs, l] → Gd 200 3 m ∧ xs.length ≤ 5 ∧ ∀ x ∈ xs, okc x
def PicB (d : PyData) : Prop := Gd 200000 8 d ∧ tpic d ∧ (formP d = true → ∃ rs f h l cs, d = .tuple [.list rs, .int f, .int h, .int l, .list cs] ∧ (∀ x ∈ rs, okc x) ∧ cs.length ≤ 9 ∧ ∀ c ∈ cs, okcell c)
theorem okcell_t {c : PyData} (h : okcell c) : tcell c := fun m xs l e => by
  obtain ⟨_, l5, a⟩ := h.2 m xs l e
  exact ⟨by omega, fun x hx => (a x hx).1⟩
theorem pic_mk {rs cs : List PyData} {a b c : PyData} (h1 : ∀ x ∈ rs, okc x) (l1 : rs.length ≤ 65) (ga : Gd 200 3 a) (gb : Gd 200 3 b) (gc : Gd 200 3 c) (h2 : ∀ x ∈ cs, okcell x) (l2 : cs.length ≤ 9) : PicB (.tuple [.list rs, a, b, c, .list cs]) := by
  have g1 : Gd 28000 6 (.list rs) := gd_list (n := 200) (k := 3) 65 (fun x hx => (h1 x hx).2) l1 (by decide) (by decide)
  have g2 : Gd 28000 6 (.list cs) := gd_list (n := 3100) (k := 5) 9 (fun x hx => (h2 x hx).1) l2 (by decide) (by decide)
  refine ⟨gd_tup (n := 28000) (k := 6) 5 ?_ (Nat.le_refl 5) (by decide) (by decide), ?_, ?_⟩
  · intro x hx
    simp only [List.mem_cons, List.not_mem_nil, or_false] at hx
    rcases hx with rfl | rfl | rfl | rfl | rfl
    · exact g1
    · exact ga.mono (by decide) (by decide)
    · exact gb.mono (by decide) (by decide)
    · exact gc.mono (by decide) (by decide)
    · exact g2
  · intro r a' b' c' k e
    simp only [PyData.tuple.injEq, List.cons.injEq, and_true] at e
    obtain ⟨rfl, rfl, rfl, rfl, rfl⟩ := e
    refine ⟨fun rs' e => ?_, fun cs' e => ?_⟩
    · obtain rfl : rs = rs' := by simpa using e
      exact ⟨by omega, fun x hx => (h1 x hx).1⟩
    · obtain rfl : cs = cs' := by simpa using e
      exact ⟨by omega, fun x hx => okcell_t (h2 x hx)⟩
  · intro hf
    obtain ⟨rs', f, hh, l, cs', e, _⟩ := form_inv hf
    simp only [PyData.tuple.injEq, List.cons.injEq, PyData.list.injEq, and_true] at e
    obtain ⟨rfl, rfl, rfl, rfl, rfl⟩ := e
    exact ⟨_, _, _, _, _, rfl, h1, l2, h2⟩
/-! ### each cell once, and come to -/
inductive Rch (st : List Int) (nx : Int → List Int) : Int → Prop
  | root {x : Int} : x ∈ st → Rch st nx x
  | step {y x : Int} : Rch st nx y → x ∈ nx y → Rch st nx x
theorem Rch.mono {st st' : List Int} {nx nx' : Int → List Int} (h1 : ∀ x ∈ st, x ∈ st') (h2 : ∀ y, ∀ x ∈ nx y, x ∈ nx' y) {x : Int} (h : Rch st nx x) : Rch st' nx' x := by
  induction h with
  | root m => exact .root (h1 _ m)
  | step _ m ih => exact .step ih (h2 _ _ m)
theorem Rch.closed {st F : List Int} {nx : Int → List Int} (h1 : ∀ x ∈ st, x ∈ F) (h2 : ∀ y ∈ F, ∀ x ∈ nx y, x ∈ F) {x : Int} (h : Rch st nx x) : x ∈ F := by
  induction h with
  | root m => exact h1 _ m
  | step _ m ih => exact h2 _ ih _ m
theorem good_go {nx : Int → List Int} {st : List Int} {n : Nat} (p : (st ++ (upTo n).flatMap nx).Perm (upTo n)) (r : ∀ x ∈ upTo n, Rch st nx x) : ∀ (j k : Nat) (W F : List Int), j + F.length = n → iter nx st k = some (W, F) → (F ++ W).Perm (st ++ F.flatMap nx) → F.Nodup → (∀ x ∈ F, x ∈ upTo n) → goodW nx st n := by
  have key : ∀ (W F : List Int), (F ++ W).Perm (st ++ F.flatMap nx) → F.Nodup → (∀ x ∈ F, x ∈ upTo n) → (F ++ W).Nodup ∧ ∀ x ∈ F ++ W, x ∈ upTo n := by
    intro W F q nd inn
    obtain ⟨R, hR⟩ := sub_perm nd inn
    have e1 : ((upTo n).flatMap nx).Perm (F.flatMap nx ++ R.flatMap nx) := by
      rw [← List.flatMap_append]
      exact hR.flatMap_right nx
    have e2 : (upTo n).Perm ((F ++ W) ++ R.flatMap nx) := by
      refine p.symm.trans ?_
      refine (e1.append_left st).trans ?_
      rw [← List.append_assoc]
      exact q.symm.append_right _
    have nd2 := e2.nodup_iff.mp (upTo_nd n)
    exact ⟨(List.nodup_append.mp nd2).1, fun x hx => e2.mem_iff.mpr (List.mem_append_left _ hx)⟩
  intro j
  induction j with
  | zero =>
    intro k W F lj it q nd inn
    obtain ⟨nd2, inn2⟩ := key W F q nd inn
    have := sub_len nd2 inn2
    rw [List.length_append, upTo_len] at this
    obtain rfl : W = [] := List.eq_nil_of_length_eq_zero (by omega)
    exact ⟨k, F, it, nd, by omega⟩
  | succ j ih =>
    intro k W F lj it q nd inn
    obtain ⟨nd2, inn2⟩ := key W F q nd inn
    by_cases hW : W = []
    · subst hW
      rw [List.append_nil] at q
      have all : ∀ x ∈ upTo n, x ∈ F := fun x hx => (r x hx).closed (fun y hy => q.mem_iff.mpr (List.mem_append_left _ hy)) fun y hy z hz => q.mem_iff.mpr (List.mem_append_right _ (List.mem_flatMap.mpr ⟨y, hy, hz⟩))
      have := sub_len (upTo_nd n) all
      rw [upTo_len] at this
      omega
    · obtain ⟨w', x, rfl⟩ : ∃ w' x, W = w' ++ [x] := ⟨W.dropLast, W.getLast hW, (List.dropLast_concat_getLast hW).symm⟩
      refine ih (k + 1) (w' ++ nx x) (F ++ [x]) (by rw [List.length_append, List.length_singleton]; omega) (iter_next it) ?_ ?_ ?_
      · have e1 : (F ++ [x] ++ (w' ++ nx x)).Perm ((F ++ (w' ++ [x])) ++ nx x) := by
          rw [← List.append_assoc, ← List.append_assoc]
          refine List.Perm.append_right _ ?_
          rw [List.append_assoc, List.append_assoc]
          exact (List.perm_append_comm).append_left F
        refine e1.trans ((q.append_right _).trans ?_)
        rw [List.flatMap_append, List.append_assoc]
        simp
      · rw [← List.append_assoc] at nd2
        have e : (F ++ w' ++ [x]).Perm (F ++ [x] ++ w') := by
          rw [List.append_assoc, List.append_assoc]
          exact (List.perm_append_comm).append_left F
        exact (List.nodup_append.mp (e.nodup_iff.mp nd2)).1
      · intro y hy
        rcases List.mem_append.mp hy with hy | hy
        · exact inn y hy
        · rw [List.mem_singleton.mp hy]
          exact inn2 x (by simp)
theorem good_of {nx : Int → List Int} {st : List Int} {n : Nat} (p : (st ++ (upTo n).flatMap nx).Perm (upTo n)) (r : ∀ x ∈ upTo n, Rch st nx x) : goodW nx st n :=
  good_go p r n 0 st [] (by simp) rfl (by simp) List.nodup_nil (fun x hx => by cases hx)
end Cb
set_option Elab.async false
set_option linter.all false
set_option maxRecDepth 100000
set_option maxHeartbeats 4000000
namespace Cb
open PySem PySem.Spec PyProof.Rows L2
/-! ### a picture put together -/
abbrev Cl := List PyData × Int
def rC (c : Cl) : List Int := refs c.1 ++ nz [c.2]
def nxC (cs : List Cl) (x : Int) : List Int := match cs[(x - 1).toNat]? with
  | some c => rC c
  | none => []
def noD : PyData → Bool
  | .none => true
  | _ => false
def cont1 (n : Nat) (d : PyData) : Prop := (∃ i : Int, d = .int i ∧ 0 ≤ i ∧ i < 9) ∨ ∃ i : Int, d = .tuple [.str "cell", .int i] ∧ 1 ≤ i ∧ i ≤ n
def okCl (n : Nat) (c : Cl) : Prop := c.1.length ≤ 4 ∧ (∀ d ∈ c.1, cont1 n d) ∧ 0 ≤ c.2 ∧ c.2 ≤ n
def reg1 (n : Nat) (d : PyData) : Prop := d = .none ∨ ∃ (z : Str) (i : Int), d = .tuple [.str z, .int i] ∧ (z = "cell" ∨ z = "hollow") ∧ 1 ≤ i ∧ i ≤ n
structure SI (n : Nat) (met : List Int) (regs : List PyData) (told : List Int) (cs : List Cl) : Prop where
  l64 : regs.length = 64
  regs1 : ∀ d ∈ regs, reg1 n d
  few : 64 ≤ (regs.filter noD).length + met.length
  l3 : told.length = 3
  told1 : ∀ t ∈ told, 0 ≤ t ∧ t ≤ (n : Int)
  lcs : cs.length = n
  cs1 : ∀ c ∈ cs, okCl n c
  perm : ((refs regs ++ nz told) ++ (upTo n).flatMap (nxC cs)).Perm met
  rch : ∀ x ∈ met, Rch (refs regs ++ nz told) (nxC cs) x
  inn : ∀ x ∈ met, 1 ≤ x ∧ x ≤ (n : Int)
theorem filt_set {α β : Type} {f : α → Option β} {b : α} {v : β} : ∀ {l : List α} {k : Nat} {a : α}, l[k]? = some a → f a = none → f b = some v → ((l.set k b).filterMap f).Perm (v :: l.filterMap f)
  | [], k, a, h, _, _ => by simp at h
  | x :: l, 0, a, h, h1, h2 => by
    obtain rfl : x = a := by simpa using h
    rw [List.set_cons_zero, List.filterMap_cons_some h2, List.filterMap_cons_none h1]
  | x :: l, k + 1, a, h, h1, h2 => by
    have ih := filt_set (l := l) (k := k) (by simpa using h) h1 h2
    rw [List.set_cons_succ]
    cases e : f x with
    | none => rwa [List.filterMap_cons_none e, List.filterMap_cons_none e]
    | some y =>
      rw [List.filterMap_cons_some e, List.filterMap_cons_some e]
      exact (ih.cons y).trans (List.Perm.swap v y _)
theorem nz_set {v : Int} (hv : ¬ v = 0) : ∀ {l : List Int} {k : Nat}, l[k]? = some 0 → (nz (l.set k v)).Perm (v :: nz l)
  | [], k, h => by simp at h
  | x :: l, 0, h => by
    obtain rfl : x = 0 := by simpa using h
    simp [nz, hv]
  | x :: l, k + 1, h => by
    have ih := nz_set hv (l := l) (k := k) (by simpa using h)
    rw [List.set_cons_succ]
    by_cases e : x = 0
    · subst e
      simpa [nz] using ih
    · have e1 : ∀ r, nz (x :: r) = x :: nz r := fun r => by simp [nz, e]
      rw [e1, e1]
      exact (ih.cons x).trans (List.Perm.swap v x _)
theorem none_set {b : PyData} (hb : noD b = false) : ∀ {l : List PyData} {k : Nat}, l[k]? = some .none → ((l.set k b).filter noD).length + 1 = (l.filter noD).length
  | [], k, h => by simp at h
  | x :: l, 0, h => by
    obtain rfl : x = .none := by simpa using h
    show (List.filter noD (b :: l)).length + 1 = (List.filter noD (PyData.none :: l)).length
    rw [List.filter_cons, List.filter_cons, hb]
    rfl
  | x :: l, k + 1, h => by
    have ih := none_set hb (l := l) (k := k) (by simpa using h)
    rw [List.set_cons_succ]
    cases e : noD x with
    | true => simp only [List.filter_cons, e, if_true, List.length_cons]; omega
    | false => simp only [List.filter_cons, e]; exact ih
theorem flat_set {nx nx' : Int → List Int} {y v : Int} (h : (nx' y).Perm (v :: nx y)) : ∀ {L : List Int}, L.Nodup → y ∈ L → (∀ z ∈ L, ¬ z = y → nx' z = nx z) → (L.flatMap nx').Perm (v :: L.flatMap nx)
  | [], _, m, _ => by simp at m
  | x :: L, nd, m, hz => by
    have n2 := List.nodup_cons.mp nd
    rw [List.flatMap_cons, List.flatMap_cons]
    by_cases e : x = y
    · subst e
      have : L.flatMap nx' = L.flatMap nx := by
        have hh : ∀ z ∈ L, nx' z = nx z := fun z hzz => hz z (List.mem_cons_of_mem _ hzz) fun e => n2.1 (e ▸ hzz)
        clear nd m hz n2 h
        induction L with
        | nil => rfl
        | cons a L ih =>
          rw [List.flatMap_cons, List.flatMap_cons, hh a (List.mem_cons_self ..), ih fun z hzz => hh z (List.mem_cons_of_mem _ hzz)]
      rw [this]
      exact h.append_right _
    · have m2 : y ∈ L := (List.mem_cons.mp m).resolve_left fun z => e z.symm
      rw [hz x (List.mem_cons_self ..) e]
      exact ((flat_set h n2.2 m2 fun z hzz => hz z (List.mem_cons_of_mem _ hzz)).append_left _).trans List.perm_middle
theorem nxC_set {cs : List Cl} {j : Nat} {c c' : Cl} (hj : cs[j]? = some c) (x : Int) : nxC (cs.set j c') x = if (x - 1).toNat = j then rC c' else nxC cs x := by
  have lj := (List.getElem?_eq_some_iff.mp hj).1
  unfold nxC
  by_cases e : (x - 1).toNat = j
  · rw [if_pos e, e, List.getElem?_set_self lj]
  · rw [if_neg e, List.getElem?_set_ne (Ne.symm e)]
theorem snoc_perm {α : Type} {A L : List α} {v : α} (h : A.Perm L) : (v :: A).Perm (L ++ [v]) := (h.cons v).trans (List.perm_append_singleton v L).symm
section
variable {n : Nat} {met : List Int} {regs : List PyData} {told : List Int} {cs : List Cl}
theorem SI.cell (S : SI n met regs told cs) {y v : Int} {c c' : Cl} (hy : y ∈ met) (hj : cs[(y - 1).toNat]? = some c) (p : (rC c').Perm (v :: rC c)) (ok : okCl n c') (v1 : 1 ≤ v) (v2 : v ≤ n) : SI n (met ++ [v]) regs told (cs.set (y - 1).toNat c') := by
  have iy := S.inn y hy
  have sub : ∀ z, ∀ x ∈ nxC cs z, x ∈ nxC (cs.set (y - 1).toNat c') z := fun z x hx => by
    rw [nxC_set hj]
    by_cases e : (z - 1).toNat = (y - 1).toNat
    · rw [if_pos e]
      unfold nxC at hx
      rw [e, hj] at hx
      exact p.mem_iff.mpr (List.mem_cons_of_mem _ hx)
    · rwa [if_neg e]
  have ey : nxC (cs.set (y - 1).toNat c') y = rC c' := by rw [nxC_set hj, if_pos rfl]
  have ey0 : nxC cs y = rC c := by
    unfold nxC
    rw [hj]
  refine ⟨S.l64, S.regs1, ?_, S.l3, S.told1, by rw [List.length_set]; exact S.lcs, ?_, ?_, ?_, ?_⟩
  · have := S.few
    rw [List.length_append]
    omega
  · intro d hd
    rcases List.mem_or_eq_of_mem_set hd with h | h
    · exact S.cs1 d h
    · rw [h]
      exact ok
  · have q := flat_set (nx := nxC cs) (nx' := nxC (cs.set (y - 1).toNat c')) (y := y) (v := v) (by rw [ey, ey0]; exact p) (upTo_nd n) (mem_upTo.mpr iy) fun z hz ne => by
      have iz := mem_upTo.mp hz
      rw [nxC_set hj, if_neg (by omega)]
    exact ((q.append_left _).trans List.perm_middle).trans (snoc_perm S.perm)
  · intro x hx
    rcases List.mem_append.mp hx with hx | hx
    · exact (S.rch x hx).mono (fun _ m => m) sub
    · rw [List.mem_singleton.mp hx]
      refine .step ((S.rch y hy).mono (fun _ m => m) sub) ?_
      rw [ey]
      exact p.mem_iff.mpr (List.mem_cons_self ..)
  · intro x hx
    rcases List.mem_append.mp hx with hx | hx
    · exact S.inn x hx
    · rw [List.mem_singleton.mp hx]
      exact ⟨v1, v2⟩
/-- a new root -/
theorem SI.root (S : SI n met regs told cs) {regs' : List PyData} {told' : List Int} {v : Int} (p : (refs regs' ++ nz told').Perm (v :: (refs regs ++ nz told))) (l64 : regs'.length = 64) (h1 : ∀ d ∈ regs', reg1 n d) (few : 64 ≤ (regs'.filter noD).length + (met.length + 1)) (l3 : told'.length = 3) (h2 : ∀ t ∈ told', 0 ≤ t ∧ t ≤ (n : Int)) (v1 : 1 ≤ v) (v2 : v ≤ n) : SI n (met ++ [v]) regs' told' cs := by
  have sub : ∀ x ∈ refs regs ++ nz told, x ∈ refs regs' ++ nz told' := fun x hx => p.mem_iff.mpr (List.mem_cons_of_mem _ hx)
  refine ⟨l64, h1, by rw [List.length_append]; exact few, l3, h2, S.lcs, S.cs1, ?_, ?_, ?_⟩
  · exact (p.append_right _).trans (snoc_perm S.perm)
  · intro x hx
    rcases List.mem_append.mp hx with hx | hx
    · exact (S.rch x hx).mono sub fun _ _ m => m
    · rw [List.mem_singleton.mp hx]
      exact .root (p.mem_iff.mpr (List.mem_cons_self ..))
  · intro x hx
    rcases List.mem_append.mp hx with hx | hx
    · exact S.inn x hx
    · rw [List.mem_singleton.mp hx]
      exact ⟨v1, v2⟩
theorem SI.tell (S : SI n met regs told cs) {k : Nat} {v : Int} (hk : told[k]? = some 0) (v1 : 1 ≤ v) (v2 : v ≤ n) : SI n (met ++ [v]) regs (told.set k v) cs := by
  refine S.root ?_ S.l64 S.regs1 (by have := S.few; omega) (by rw [List.length_set]; exact S.l3) ?_ v1 v2
  · exact ((nz_set (by omega) hk).append_left _).trans List.perm_middle
  · intro t ht
    rcases List.mem_or_eq_of_mem_set ht with h | h
    · exact S.told1 t h
    · rw [h]
      exact ⟨by omega, v2⟩
theorem SI.reg (S : SI n met regs told cs) {k : Nat} {v : Int} {z : Str} (hk : regs[k]? = some .none) (hz : z = "cell" ∨ z = "hollow") (v1 : 1 ≤ v) (v2 : v ≤ n) : SI n (met ++ [v]) (regs.set k (.tuple [.str z, .int v])) told cs := by
  have nb : ¬ z = "bare" := by rcases hz with rfl | rfl <;> decide
  refine S.root ?_ (by rw [List.length_set]; exact S.l64) ?_ ?_ S.l3 S.told1 v1 v2
  · refine (filt_set (f := ref1) (b := .tuple [.str z, .int v]) (v := v) hk rfl ?_).append_right _
    show (if z = "bare" then none else some v) = some v
    rw [if_neg nb]
  · intro d hd
    rcases List.mem_or_eq_of_mem_set hd with h | h
    · exact S.regs1 d h
    · exact .inr ⟨z, v, h, hz, v1, v2⟩
  · have := none_set (b := .tuple [.str z, .int v]) rfl hk
    have := S.few
    omega
def cellD (c : Cl) : PyData := .tuple [.str "m", .tuple c.1, .int c.2]
def picD (regs : List PyData) (a b c : Int) (cs : List Cl) : PyData := .tuple [.list regs, .int a, .int b, .int c, .list (cs.map cellD)]
theorem cont1_P {d : PyData} (h : cont1 n d) : contP true n d = true := by
  rcases h with ⟨i, rfl, h1, h2⟩ | ⟨i, rfl, h1, h2⟩
  · show (decide (lo ≤ i) && decide (i ≤ hi)) = true
    unfold lo hi
    simp
    omega
  · show (decide (1 ≤ i) && decide (i ≤ (n : Int))) = true
    simp [h1, h2]
theorem cont1_okc {d : PyData} (hn : n ≤ 9) (h : cont1 n d) : okc d := by
  rcases h with ⟨i, rfl, h1, h2⟩ | ⟨i, rfl, h1, h2⟩
  · exact ⟨(fun a x e => nomatch e), gd_int (by omega) (by decide)⟩
  · refine ⟨fun a x e => ?_, gd_tup (n := 70) (k := 0) 2 ?_ (Nat.le_refl 2) (by decide) (by decide)⟩
    · simp only [PyData.tuple.injEq, List.cons.injEq, and_true] at e
      exact ⟨_, e.1.symm, fun z => absurd z (by decide)⟩
    · intro x hx
      simp only [List.mem_cons, List.not_mem_nil, or_false] at hx
      rcases hx with rfl | rfl
      · exact gd_str (by decide) (by decide)
      · exact gd_int (by omega) (by decide)
theorem reg1_P {d : PyData} (h : reg1 n d) : contP false n d = true := by
  rcases h with rfl | ⟨z, i, rfl, hz, h1, h2⟩
  · rfl
  · have e : contP false n (.tuple [.str z, .int i]) = if z = "bare" then isWord (.int i) else (decide (z = "cell") || (!false && decide (z = "hollow"))) && (decide (1 ≤ i) && decide (i ≤ (n : Int))) := rfl
    rw [e]
    rcases hz with rfl | rfl
    · rw [if_neg (by decide)]
      simp [h1, h2]
    · rw [if_neg (by decide)]
      simp [h1, h2]
theorem reg1_okc {d : PyData} (hn : n ≤ 9) (h : reg1 n d) : okc d := by
  rcases h with rfl | ⟨z, i, rfl, hz, h1, h2⟩
  · exact ⟨(fun a x e => nomatch e), gd_none⟩
  · refine ⟨fun a x e => ?_, gd_tup (n := 70) (k := 0) 2 ?_ (Nat.le_refl 2) (by decide) (by decide)⟩
    · simp only [PyData.tuple.injEq, List.cons.injEq, and_true] at e
      refine ⟨_, e.1.symm, fun z => ?_⟩
      subst z
      rcases hz with h | h <;> exact absurd h (by decide)
    · intro x hx
      simp only [List.mem_cons, List.not_mem_nil, or_false] at hx
      rcases hx with rfl | rfl
      · rcases hz with rfl | rfl
        · exact gd_str (by decide) (by decide)
        · exact gd_str (by decide) (by decide)
      · exact gd_int (by omega) (by decide)
theorem okCl_cell {c : Cl} (hn : n ≤ 9) (h : okCl n c) : okcell (cellD c) := by
  obtain ⟨h1, h2, h3, h4⟩ := h
  refine ⟨gd_tup (n := 1005) (k := 4) 3 ?_ (Nat.le_refl 3) (by decide) (by decide), ?_⟩
  · intro x hx
    simp only [List.mem_cons, List.not_mem_nil, or_false] at hx
    rcases hx with rfl | rfl | rfl
    · exact gd_str (by decide) (by decide)
    · exact gd_tup (n := 200) (k := 3) 5 (fun x hx => (cont1_okc hn (h2 x hx)).2) (by omega) (by decide) (by decide)
    · exact gd_int (by omega) (by decide)
  · intro m xs l e
    unfold cellD at e
    simp only [PyData.tuple.injEq, List.cons.injEq, and_true] at e
    obtain ⟨rfl, rfl, rfl⟩ := e
    exact ⟨gd_str (by decide) (by decide), by omega, fun x hx => cont1_okc hn (h2 x hx)⟩
theorem SI.pic {a b c : Int} (S : SI n met regs [a, b, c] cs) (hn : n ≤ 9) (p : met.Perm (upTo n)) : PicB (picD regs a b c cs) ∧ formP (picD regs a b c cs) = true ∧ forestB (picD regs a b c cs) = true := by
  have ha := S.told1 a (by simp)
  have hb := S.told1 b (by simp)
  have hc := S.told1 c (by simp)
  have lcs : (cs.map cellD).length = n := by rw [List.length_map, S.lcs]
  have hf : formP (picD regs a b c cs) = true := by
    show (decide (regs.length = 64) && regs.all (contP false (cs.map cellD).length) && [PyData.int a, .int b, .int c].all (linkB (cs.map cellD).length 0) && (cs.map cellD).all (cellP (cs.map cellD).length)) = true
    rw [lcs]
    simp only [Bool.and_eq_true, List.all_eq_true, decide_eq_true_eq]
    refine ⟨⟨⟨S.l64, fun d hd => reg1_P (S.regs1 d hd)⟩, ?_⟩, ?_⟩
    · intro d hd
      simp only [List.mem_cons, List.not_mem_nil, or_false] at hd
      rcases hd with rfl | rfl | rfl <;> simp only [linkB, Bool.and_eq_true, decide_eq_true_eq]
      · exact ha
      · exact hb
      · exact hc
    · intro d hd
      obtain ⟨e, he, rfl⟩ := List.mem_map.mp hd
      obtain ⟨h1, h2, h3, h4⟩ := S.cs1 e he
      show (linkB n 0 (.int e.2) && (decide (e.1.length ≤ 4) && e.1.all (contP true n))) = true
      simp only [linkB, Bool.and_eq_true, decide_eq_true_eq, List.all_eq_true]
      exact ⟨⟨h3, h4⟩, h1, fun d hd => cont1_P (h2 d hd)⟩
  refine ⟨pic_mk (fun x hx => reg1_okc hn (S.regs1 x hx)) (by have := S.l64; omega) (gd_int (by omega) (by decide)) (gd_int (by omega) (by decide)) (gd_int (by omega) (by decide)) ?_ (by omega), hf, ?_⟩
  · intro x hx
    obtain ⟨e, he, rfl⟩ := List.mem_map.mp hx
    exact okCl_cell hn (S.cs1 e he)
  · unfold forestB
    rw [hf, Bool.true_and]
    refine @decide_eq_true _ (Classical.propDecidable _) ?_
    have e1 : startD (picD regs a b c cs) = refs regs ++ nz [a, b, c] := rfl
    have e2 : nextD (picD regs a b c cs) = nxC cs := by
      funext x
      show (match (cs.map cellD)[(x - 1).toNat]? with
        | some c => nextC c
        | none => []) = _
      unfold nxC
      rw [List.getElem?_map]
      cases cs[(x - 1).toNat]? <;> rfl
    have e3 : (cellsD (picD regs a b c cs)).length = n := lcs
    rw [e1, e2, e3]
    exact good_of (S.perm.trans p) fun x hx => S.rch x (p.mem_iff.mpr hx)
end
end Cb
set_option Elab.async false
set_option linter.all false
set_option maxRecDepth 100000
set_option maxHeartbeats 4000000
namespace Cb
open PySem PySem.Spec PyProof.Rows L2
/-! ### flat things beside the generator -/
inductive FV (g : Addr) (H : Hp) : V → PyData → Prop
  | non : FV g H .non .none
  | int (i : Int) : FV g H (.int i) (.int i)
  | tup {t : Addr} {z : Str} {i : Int} : t ≠ g → H t = some (.tup [.str z, .int i]) → FV g H (.ref t) (.tuple [.str z, .int i])
theorem FV.keep {g : Addr} {H H' : Hp} {x : V} {d : PyData} (h : FV g H x d) (k : Keep [g] H H') : FV g H' x d := by
  cases h with
  | non => exact .non
  | int i => exact .int i
  | tup n e => exact .tup n (k _ _ (nin1 n) e)
theorem FV.upd {g a : Addr} {H : Hp} {x : V} {d : PyData} {ys : List V} {o : HO} (h : FV g H x d) (ha : H a = some (.lst ys)) : FV g (upd H a o) x d := by
  cases h with
  | non => exact .non
  | int i => exact .int i
  | @tup t z i n e =>
    refine .tup n ?_
    rw [upd_ne (fun q => by subst q; rw [ha] at e; cases e)]
    exact e
theorem FV.dt {g : Addr} {H : Hp} {x : V} {d : PyData} (h : FV g H x d) : DT (hid [g] H) x d := by
  cases h with
  | non => exact .non
  | int i => exact .int i
  | tup n e => exact .tup (hid_at (nin1 n) e) (.cons (.str _) (.cons (.int _) .nil))
def FVs (g : Addr) (H : Hp) (xs : List V) (ds : List PyData) : Prop := Paired (FV g H) xs ds
theorem paired_map {α β : Type} {F G : α → β → Prop} (f : ∀ a b, F a b → G a b) : ∀ {xs : List α} {ds : List β}, Paired F xs ds → Paired G xs ds
  | _, _, .nil => .nil
  | _, _, .cons h r => .cons (f _ _ h) (paired_map f r)
theorem paired_at {α β : Type} {F : α → β → Prop} : ∀ {xs : List α} {ds : List β} {i : Nat} {x : α}, Paired F xs ds → xs[i]? = some x → ∃ d, ds[i]? = some d ∧ F x d
  | _, _, 0, _, .cons h r, e => by
    simp only [List.getElem?_cons_zero, Option.some.injEq] at e
    subst e
    exact ⟨_, rfl, h⟩
  | _, _, i + 1, _, .cons h r, e => by
    simp only [List.getElem?_cons_succ] at e ⊢
    exact paired_at r e
theorem paired_set {α β : Type} {F : α → β → Prop} : ∀ {xs : List α} {ds : List β} {i : Nat} {x : α} {d : β}, Paired F xs ds → F x d → Paired F (xs.set i x) (ds.set i d)
  | _, _, _, _, _, .nil, _ => .nil
  | _, _, 0, _, _, .cons _ r, h => .cons h r
  | _, _, i + 1, _, _, .cons a r, h => .cons a (paired_set r h)
theorem FVs.keep {g : Addr} {H H' : Hp} {xs : List V} {ds : List PyData} (h : FVs g H xs ds) (k : Keep [g] H H') : FVs g H' xs ds := paired_map (fun _ _ z => z.keep k) h
theorem FVs.upd {g a : Addr} {H : Hp} {xs : List V} {ds : List PyData} {ys : List V} {o : HO} (h : FVs g H xs ds) (ha : H a = some (.lst ys)) : FVs g (upd H a o) xs ds := paired_map (fun _ _ z => z.upd ha) h
theorem FVs.dts {g : Addr} {H : Hp} : ∀ {xs : List V} {ds : List PyData}, FVs g H xs ds → DTs (hid [g] H) xs ds
  | _, _, .nil => .nil
  | _, _, .cons h r => .cons h.dt (FVs.dts r)
theorem fvs_ints {g : Addr} {H : Hp} : ∀ ns : List Int, FVs g H (ns.map V.int) (ns.map PyData.int)
  | [] => .nil
  | n :: ns => .cons (.int n) (fvs_ints ns)
theorem fvs_non {g : Addr} {H : Hp} : ∀ n : Nat, FVs g H (List.replicate n V.non) (List.replicate n PyData.none)
  | 0 => .nil
  | n + 1 => .cons .non (fvs_non n)
/-! ### the lists within the draw -/
def six (g O R T C M : Addr) : List Addr := [g, O, R, T, C, M]
structure HS (g O R T C M : Addr) (H0 H : Hp) (ord : List Int) (regs : List PyData) (told : List Int) (cs : List Cl) (met : List Int) (adr : List (Addr × Addr)) : Prop where
  keep : Keep [g] H0 H
  nd : (six g O R T C M).Nodup
  n0 : ∀ a ∈ six g O R T C M, a ≠ g → H0 a = none
  hO : H O = some (.lst (ord.map V.int))
  hR : ∃ rv, H R = some (.lst rv) ∧ FVs g H rv regs
  hT : H T = some (.lst (told.map V.int))
  hM : H M = some (.lst (met.map V.int))
  hC : H C = some (.lst (adr.map fun p => V.ref p.1))
  la : adr.length = cs.length
  cell : ∀ (j : Nat) (p : Addr × Addr) (x : Cl), adr[j]? = some p → cs[j]? = some x → H p.1 = some (.lst [.int 0, .ref p.2, .int x.2]) ∧ ∃ vs, H p.2 = some (.lst vs) ∧ FVs g H vs x.1
  new : ∀ p ∈ adr, H0 p.1 = none ∧ H0 p.2 = none ∧ p.1 ∉ six g O R T C M ∧ p.2 ∉ six g O R T C M
  dis : ∀ (i j : Nat) (p q : Addr × Addr), adr[i]? = some p → adr[j]? = some q → (i ≠ j → p.1 ≠ q.1 ∧ p.2 ≠ q.2) ∧ p.1 ≠ q.2
section
variable {g O R T C M : Addr} {H0 H : Hp} {ord : List Int} {regs : List PyData} {told : List Int} {cs : List Cl} {met : List Int} {adr : List (Addr × Addr)}
theorem six_ne (h : (six g O R T C M).Nodup) : O ≠ g ∧ R ≠ g ∧ T ≠ g ∧ C ≠ g ∧ M ≠ g ∧ O ≠ R ∧ O ≠ T ∧ O ≠ C ∧ O ≠ M ∧ R ≠ T ∧ R ≠ C ∧ R ≠ M ∧ T ≠ C ∧ T ≠ M ∧ C ≠ M := by
  unfold six at h
  simp only [List.nodup_cons, List.mem_cons, List.not_mem_nil, or_false, not_or] at h
  obtain ⟨⟨a1, a2, a3, a4, a5⟩, ⟨b1, b2, b3, b4⟩, ⟨c1, c2, c3⟩, ⟨d1, d2⟩, e1, _⟩ := h
  exact ⟨Ne.symm a1, Ne.symm a2, Ne.symm a3, Ne.symm a4, Ne.symm a5, b1, b2, b3, b4, c1, c2, c3, d1, d2, e1⟩
theorem not_six {x : Addr} (h : x ∉ six g O R T C M) : x ≠ g ∧ x ≠ O ∧ x ≠ R ∧ x ≠ T ∧ x ≠ C ∧ x ≠ M := by
  unfold six at h
  simpa only [List.mem_cons, List.not_mem_nil, or_false, not_or] using h
theorem HS.kept {H' : Hp} (S : HS g O R T C M H0 H ord regs told cs met adr) (k : Keep [g] H H') : HS g O R T C M H0 H' ord regs told cs met adr := by
  obtain ⟨n1, n2, n3, n4, n5, _⟩ := six_ne S.nd
  obtain ⟨rv, hr, fr⟩ := S.hR
  refine ⟨S.keep.trans k, S.nd, S.n0, k _ _ (nin1 n1) S.hO, ⟨rv, k _ _ (nin1 n2) hr, fr.keep k⟩, k _ _ (nin1 n3) S.hT, k _ _ (nin1 n5) S.hM, k _ _ (nin1 n4) S.hC, S.la, ?_, S.new, S.dis⟩
  intro j p x hp hx
  obtain ⟨e1, vs, e2, f⟩ := S.cell j p x hp hx
  obtain ⟨_, _, m1, m2⟩ := S.new p (List.mem_of_getElem? hp)
  exact ⟨k _ _ (nin1 (not_six m1).1) e1, vs, k _ _ (nin1 (not_six m2).1) e2, f.keep k⟩
theorem HS.free {a : Addr} {o : HO} (S : HS g O R T C M H0 H ord regs told cs met adr) (h0 : H0 a = none) : Keep [g] H0 (upd H a o) := fun b u nb e => by
  rw [upd_ne (ne_of_none e h0)]
  exact S.keep b u nb e
theorem HS.fresh {s t0 : Int} {n : Nat} {x : Addr} (S : HS g O R T C M H0 H ord regs told cs met adr) (G : Gn g s t0 n H) (h : H x = none) : x ∉ six g O R T C M ∧ H0 x = none ∧ ∀ q ∈ adr, q.1 ≠ x ∧ q.2 ≠ x := by
  have hg := G.some h
  obtain ⟨rv, hr, _⟩ := S.hR
  have e1 := ne_of_none S.hO h
  have e2 := ne_of_none hr h
  have e3 := ne_of_none S.hT h
  have e4 := ne_of_none S.hC h
  have e5 := ne_of_none S.hM h
  refine ⟨?_, ?_, ?_⟩
  · unfold six
    simp only [List.mem_cons, List.not_mem_nil, or_false, not_or]
    exact ⟨hg, Ne.symm e1, Ne.symm e2, Ne.symm e3, Ne.symm e4, Ne.symm e5⟩
  · cases e : H0 x with
    | none => rfl
    | some o =>
      rw [S.keep x o (nin1 hg) e] at h
      cases h
  · intro q hq
    obtain ⟨j, hj, e⟩ := List.mem_iff_getElem.mp hq
    have hp : adr[j]? = some q := by rw [List.getElem?_eq_getElem hj, e]
    have hj2 : j < cs.length := by rw [← S.la]; exact hj
    have hx : cs[j]? = some (cs[j]'hj2) := List.getElem?_eq_getElem hj2
    obtain ⟨c1, vs, c2, _⟩ := S.cell j q _ hp hx
    exact ⟨ne_of_none c1 h, ne_of_none c2 h⟩
/-- a register -/
theorem HS.setR {k : Nat} {x : V} {d : PyData} {rv : List V} (S : HS g O R T C M H0 H ord regs told cs met adr) (hr : H R = some (.lst rv)) (fx : FV g H x d) : HS g O R T C M H0 (upd H R (.lst (rv.set k x))) ord (regs.set k d) told cs met adr := by
  obtain ⟨n1, n2, n3, n4, n5, a1, a2, a3, a4, b1, b2, b3, c1, c2, d1⟩ := six_ne S.nd
  obtain ⟨rv', hr', fr⟩ := S.hR
  obtain rfl : rv' = rv := by
    rw [hr'] at hr
    simpa using hr
  refine ⟨S.free (S.n0 R (by simp [six]) n2), S.nd, S.n0, (upd_ne a1).trans S.hO, ⟨_, upd_same, FVs.upd (paired_set (i := k) fr fx) hr⟩, (upd_ne (Ne.symm b1)).trans S.hT, (upd_ne (Ne.symm b3)).trans S.hM, (upd_ne (Ne.symm b2)).trans S.hC, S.la, ?_, S.new, S.dis⟩
  intro j p x hp hx
  obtain ⟨e1, vs, e2, f⟩ := S.cell j p x hp hx
  obtain ⟨_, _, m1, m2⟩ := S.new p (List.mem_of_getElem? hp)
  exact ⟨(upd_ne (not_six m1).2.2.1).trans e1, vs, (upd_ne (not_six m2).2.2.1).trans e2, f.upd hr⟩
/-- a told number -/
theorem HS.setT {told' : List Int} (S : HS g O R T C M H0 H ord regs told cs met adr) : HS g O R T C M H0 (upd H T (.lst (told'.map V.int))) ord regs told' cs met adr := by
  obtain ⟨n1, n2, n3, n4, n5, a1, a2, a3, a4, b1, b2, b3, c1, c2, d1⟩ := six_ne S.nd
  obtain ⟨rv, hr, fr⟩ := S.hR
  refine ⟨S.free (S.n0 T (by simp [six]) n3), S.nd, S.n0, (upd_ne a2).trans S.hO, ⟨_, (upd_ne b1).trans hr, fr.upd S.hT⟩, upd_same, (upd_ne (Ne.symm c2)).trans S.hM, (upd_ne (Ne.symm c1)).trans S.hC, S.la, ?_, S.new, S.dis⟩
  intro j p x hp hx
  obtain ⟨e1, vs, e2, f⟩ := S.cell j p x hp hx
  obtain ⟨_, _, m1, m2⟩ := S.new p (List.mem_of_getElem? hp)
  exact ⟨(upd_ne (not_six m1).2.2.2.1).trans e1, vs, (upd_ne (not_six m2).2.2.2.1).trans e2, f.upd S.hT⟩
/-- one more met -/
theorem HS.setM {met' : List Int} (S : HS g O R T C M H0 H ord regs told cs met adr) : HS g O R T C M H0 (upd H M (.lst (met'.map V.int))) ord regs told cs met' adr := by
  obtain ⟨n1, n2, n3, n4, n5, a1, a2, a3, a4, b1, b2, b3, c1, c2, d1⟩ := six_ne S.nd
  obtain ⟨rv, hr, fr⟩ := S.hR
  refine ⟨S.free (S.n0 M (by simp [six]) n5), S.nd, S.n0, (upd_ne a4).trans S.hO, ⟨_, (upd_ne b3).trans hr, fr.upd S.hM⟩, (upd_ne c2).trans S.hT, upd_same, (upd_ne d1).trans S.hC, S.la, ?_, S.new, S.dis⟩
  intro j p x hp hx
  obtain ⟨e1, vs, e2, f⟩ := S.cell j p x hp hx
  obtain ⟨_, _, m1, m2⟩ := S.new p (List.mem_of_getElem? hp)
  exact ⟨(upd_ne (not_six m1).2.2.2.2.2).trans e1, vs, (upd_ne (not_six m2).2.2.2.2.2).trans e2, f.upd S.hM⟩
/-- a cell's contents grow -/
theorem HS.setK {j : Nat} {p : Addr × Addr} {x : Cl} {vs : List V} {v : V} {d : PyData} (S : HS g O R T C M H0 H ord regs told cs met adr) (hp : adr[j]? = some p) (hx : cs[j]? = some x) (hk : H p.2 = some (.lst vs)) (fv : FV g H v d) :
    HS g O R T C M H0 (upd H p.2 (.lst (vs ++ [v]))) ord regs told (cs.set j (x.1 ++ [d], x.2)) met adr := by
  obtain ⟨rv, hr, fr⟩ := S.hR
  obtain ⟨z1, z2, m1, m2⟩ := S.new p (List.mem_of_getElem? hp)
  obtain ⟨q1, q2, q3, q4, q5, q6⟩ := not_six m2
  have lj := (List.getElem?_eq_some_iff.mp hx).1
  refine ⟨S.free z2, S.nd, S.n0, (upd_ne (Ne.symm q2)).trans S.hO, ⟨_, (upd_ne (Ne.symm q3)).trans hr, fr.upd hk⟩, (upd_ne (Ne.symm q4)).trans S.hT, (upd_ne (Ne.symm q6)).trans S.hM, (upd_ne (Ne.symm q5)).trans S.hC, by rw [List.length_set]; exact S.la, ?_, S.new, S.dis⟩
  intro i q y hq hy
  by_cases e : i = j
  · subst e
    obtain rfl : q = p := by
      rw [hq] at hp
      simpa using hp
    rw [List.getElem?_set_self lj] at hy
    obtain rfl : (x.1 ++ [d], x.2) = y := by simpa using hy
    obtain ⟨e1, vs', e2, f⟩ := S.cell i q x hp hx
    obtain rfl : vs' = vs := by
      rw [e2] at hk
      simpa using hk
    exact ⟨(upd_ne (S.dis i i q q hp hp).2).trans e1, _, upd_same, Paired.snoc (f.upd hk) (fv.upd hk)⟩
  · rw [List.getElem?_set_ne (Ne.symm e)] at hy
    obtain ⟨e1, vs', e2, f⟩ := S.cell i q y hq hy
    exact ⟨(upd_ne (S.dis i j q p hq hp).2).trans e1, vs', (upd_ne ((S.dis i j q p hq hp).1 e).2).trans e2, f.upd hk⟩
/-- a cell's link -/
theorem HS.setC {j : Nat} {p : Addr × Addr} {x : Cl} {v : Int} (S : HS g O R T C M H0 H ord regs told cs met adr) (hp : adr[j]? = some p) (hx : cs[j]? = some x) :
    HS g O R T C M H0 (upd H p.1 (.lst [.int 0, .ref p.2, .int v])) ord regs told (cs.set j (x.1, v)) met adr := by
  obtain ⟨rv, hr, fr⟩ := S.hR
  obtain ⟨z1, z2, m1, m2⟩ := S.new p (List.mem_of_getElem? hp)
  obtain ⟨q1, q2, q3, q4, q5, q6⟩ := not_six m1
  have lj := (List.getElem?_eq_some_iff.mp hx).1
  have hc := (S.cell j p x hp hx).1
  refine ⟨S.free z1, S.nd, S.n0, (upd_ne (Ne.symm q2)).trans S.hO, ⟨_, (upd_ne (Ne.symm q3)).trans hr, fr.upd hc⟩, (upd_ne (Ne.symm q4)).trans S.hT, (upd_ne (Ne.symm q6)).trans S.hM, (upd_ne (Ne.symm q5)).trans S.hC, by rw [List.length_set]; exact S.la, ?_, S.new, S.dis⟩
  intro i q y hq hy
  by_cases e : i = j
  · subst e
    obtain rfl : q = p := by
      rw [hq] at hp
      simpa using hp
    rw [List.getElem?_set_self lj] at hy
    obtain rfl : (x.1, v) = y := by simpa using hy
    obtain ⟨e1, vs', e2, f⟩ := S.cell i q x hp hx
    exact ⟨upd_same, vs', (upd_ne (Ne.symm (S.dis i i q q hp hp).2)).trans e2, f.upd hc⟩
  · rw [List.getElem?_set_ne (Ne.symm e)] at hy
    obtain ⟨e1, vs', e2, f⟩ := S.cell i q y hq hy
    exact ⟨(upd_ne ((S.dis i j q p hq hp).1 e).1).trans e1, vs', (upd_ne (Ne.symm (S.dis j i p q hp hq).2)).trans e2, f.upd hc⟩
/-- a new cell -/
theorem HS.addC {p : Addr × Addr} {x : Cl} {vs : List V} (S : HS g O R T C M H0 H ord regs told cs met adr) (h1 : H p.1 = some (.lst [.int 0, .ref p.2, .int x.2])) (h2 : H p.2 = some (.lst vs)) (f : FVs g H vs x.1) (ne : p.1 ≠ p.2)
    (z1 : H0 p.1 = none) (z2 : H0 p.2 = none) (m1 : p.1 ∉ six g O R T C M) (m2 : p.2 ∉ six g O R T C M) (old : ∀ q ∈ adr, q.1 ≠ p.1 ∧ q.2 ≠ p.2 ∧ q.1 ≠ p.2 ∧ p.1 ≠ q.2) :
    HS g O R T C M H0 (upd H C (.lst ((adr ++ [p]).map fun p => V.ref p.1))) ord regs told (cs ++ [x]) met (adr ++ [p]) := by
  obtain ⟨n1, n2, n3, n4, n5, a1, a2, a3, a4, b1, b2, b3, c1, c2, d1⟩ := six_ne S.nd
  obtain ⟨rv, hr, fr⟩ := S.hR
  have hc := S.hC
  have la := S.la
  refine ⟨S.free (S.n0 C (by simp [six]) n4), S.nd, S.n0, (upd_ne a3).trans S.hO, ⟨_, (upd_ne b2).trans hr, fr.upd hc⟩, (upd_ne c1).trans S.hT, (upd_ne (Ne.symm d1)).trans S.hM, upd_same, by rw [List.length_append, List.length_append, la]; rfl, ?_, ?_, ?_⟩
  · intro j q y hq hy
    by_cases e : j < adr.length
    · rw [List.getElem?_append_left e] at hq
      rw [List.getElem?_append_left (by omega)] at hy
      obtain ⟨e1, vs, e2, f⟩ := S.cell j q y hq hy
      obtain ⟨_, _, m1, m2⟩ := S.new q (List.mem_of_getElem? hq)
      exact ⟨(upd_ne (not_six m1).2.2.2.2.1).trans e1, vs, (upd_ne (not_six m2).2.2.2.2.1).trans e2, f.upd hc⟩
    · have lj := (List.getElem?_eq_some_iff.mp hq).1
      rw [List.length_append, List.length_singleton] at lj
      obtain rfl : j = adr.length := by omega
      rw [List.getElem?_concat_length] at hq
      rw [la, List.getElem?_concat_length] at hy
      obtain rfl := Option.some.inj hq
      obtain rfl := Option.some.inj hy
      exact ⟨(upd_ne (not_six m1).2.2.2.2.1).trans h1, vs, (upd_ne (not_six m2).2.2.2.2.1).trans h2, f.upd hc⟩
  · intro q hq
    rcases List.mem_append.mp hq with hq | hq
    · exact S.new q hq
    · rw [List.mem_singleton.mp hq]
      exact ⟨z1, z2, m1, m2⟩
  · have split : ∀ (j : Nat) (q : Addr × Addr), (adr ++ [p])[j]? = some q → (j < adr.length ∧ adr[j]? = some q) ∨ (j = adr.length ∧ q = p) := by
      intro j q hq
      by_cases e : j < adr.length
      · rw [List.getElem?_append_left e] at hq
        exact .inl ⟨e, hq⟩
      · have lj := (List.getElem?_eq_some_iff.mp hq).1
        rw [List.length_append, List.length_singleton] at lj
        obtain rfl : j = adr.length := by omega
        rw [List.getElem?_concat_length] at hq
        exact .inr ⟨rfl, (Option.some.inj hq).symm⟩
    intro i j q r hq hr
    rcases split i q hq with ⟨li, hq'⟩ | ⟨ei, eq⟩ <;> rcases split j r hr with ⟨lj, hr'⟩ | ⟨ej, er⟩
    · exact S.dis i j q r hq' hr'
    · obtain ⟨o1, o2, o3, o4⟩ := old q (List.mem_of_getElem? hq')
      rw [er]
      exact ⟨fun _ => ⟨o1, o2⟩, o3⟩
    · obtain ⟨o1, o2, o3, o4⟩ := old r (List.mem_of_getElem? hr')
      rw [eq]
      exact ⟨fun _ => ⟨Ne.symm o1, Ne.symm o2⟩, o4⟩
    · rw [eq, er]
      exact ⟨fun e => absurd (ei.trans ej.symm) e, ne⟩
end
end Cb
set_option Elab.async false
set_option linter.all false
set_option maxRecDepth 100000
set_option maxHeartbeats 4000000
namespace Cb
open PySem PySem.Spec PyProof.Rows L2
theorem ixN_nat {n k : Nat} (h : k < n) : ixN n (k : Int) = some k := by
  unfold ixN
  rw [if_pos (Int.natCast_nonneg _), if_pos (by omega)]
  rfl
theorem ixN_int {n : Nat} {i : Int} (h0 : 0 ≤ i) (h : i < n) : ixN n i = some i.toNat := by
  unfold ixN
  rw [if_pos h0, if_pos h]
theorem atI_of {α : Type} {xs : List α} {i : Int} {v : α} (h0 : 0 ≤ i) (h : xs[i.toNat]? = some v) : atI xs i = some v := by
  have := atI_nat h
  rwa [Int.toNat_of_nonneg h0] at this
theorem atI_ints {ns : List Int} {i m : Int} (h0 : 0 ≤ i) (h : ns[i.toNat]? = some m) : atI (ns.map V.int) i = some (.int m) := atI_of h0 (by rw [List.getElem?_map, h]; rfl)
/-- a test and `xs != []` -/
theorem and_test {t1 : TE} {k : Nat} {σ : L2.St} {H : Hp} {Q : Bool → Hp → Prop} {b : Bool} {D : Addr} {xs : List V} (h1 : ∀ Q' : VK, Q' (.bl b) H → t1 σ H Q') (hk : σ[k]? = some (some (.ref D))) (hD : H D = some (.lst xs)) (q : ∀ H', Same H H' → Q (b && !xs.isEmpty) H') : tAnd (tTest t1) (tTest (tOp rNeNil (tVar k) (tLst tNil))) σ H Q := by
  refine h1 _ ⟨b, rfl, ?_⟩
  cases b with
  | false => exact q H (Same.refl _)
  | true => exact ⟨_, hk, Nat.zero_le _, fun l nl => ⟨D, l, xs, rfl, rfl, same_new nl _ _ hD, upd_same, _, rfl, q _ (same_new nl)⟩⟩
def freeP (told : List Int) (p : Int) : Bool := match told[p.toNat]? with
  | some t => decide (t = 0)
  | none => false
def roomP (cs : List Cl) (y : Int) : Bool := match cs[(y - 1).toNat]? with
  | some c => decide (c.1.length < 4)
  | none => false
def looseP (cs : List Cl) (y : Int) : Bool := match cs[(y - 1).toNat]? with
  | some c => decide (c.2 = 0)
  | none => false
def noneP (regs : List PyData) (p : Int) : Bool := match regs[p.toNat]? with
  | some d => noD d
  | none => false
theorem pick {P : Int → Bool} {ns : List Int} {r : Int} (h0 : 0 ≤ r) (h : r < ((ns.filter P).length : Nat)) : ∃ y, (ns.filter P)[r.toNat]? = some y ∧ y ∈ ns ∧ P y = true := by
  have lt : r.toNat < (ns.filter P).length := by omega
  refine ⟨_, List.getElem?_eq_getElem lt, ?_⟩
  exact List.mem_filter.mp (List.getElem_mem lt)
def upR (n : Nat) : List Int := (List.range n).map fun i => (0 : Int) + (i : Nat)
theorem upR_len (n : Nat) : (upR n).length = n := by simp [upR]
theorem mem_upR {n : Nat} {x : Int} (h : x ∈ upR n) : 0 ≤ x ∧ x < n := by
  obtain ⟨i, hi, rfl⟩ := List.mem_map.mp h
  have := List.mem_range.mp hi
  omega
theorem none_len {regs : List PyData} {n : Nat} (h : regs.length = n) : ((upR n).filter (noneP regs)).length = (regs.filter noD).length := by
  subst h
  have e : regs = (List.range regs.length).map fun i => regs.getD i .none := by
    refine List.ext_getElem? fun i => ?_
    by_cases hi : i < regs.length
    · rw [List.getElem?_map, List.getElem?_range hi, List.getElem?_eq_getElem hi]
      simp [List.getD, hi]
    · rw [List.getElem?_eq_none (by omega), List.getElem?_eq_none (by simpa using hi)]
  have e2 : regs.filter noD = ((List.range regs.length).filter fun i => noD (regs.getD i .none)).map fun i => regs.getD i .none := by
    conv => lhs; rw [e]
    rw [List.filter_map]
    rfl
  rw [e2, List.length_map]
  unfold upR
  rw [List.filter_map, List.length_map]
  congr 1
  refine List.filter_congr fun i hi => ?_
  have hi := List.mem_range.mp hi
  show noneP regs (0 + (i : Int)) = _
  unfold noneP
  rw [show ((0 : Int) + (i : Nat)).toNat = i by omega, List.getElem?_eq_getElem hi]
  simp [List.getD, hi]
theorem SI.zero {n : Nat} {cs : List Cl} (lcs : cs.length = n) (pl : ∀ c ∈ cs, c.2 = 0 ∧ c.1.length ≤ 2 ∧ ∀ d ∈ c.1, ∃ z : Int, d = .int z ∧ 0 ≤ z ∧ z < 9) : SI n [] (List.replicate 64 .none) [0, 0, 0] cs := by
  have e1 : refs (List.replicate 64 PyData.none) = [] := by rfl
  have e2 : nz [0, 0, 0] = [] := by rfl
  have e3 : ∀ x, nxC cs x = [] := by
    intro x
    unfold nxC
    cases h : cs[(x - 1).toNat]? with
    | none => rfl
    | some c =>
      obtain ⟨h1, h2, h3⟩ := pl c (List.mem_of_getElem? h)
      show refs c.1 ++ nz [c.2] = []
      rw [h1]
      have : refs c.1 = [] := by
        unfold refs
        rw [List.filterMap_eq_nil_iff]
        intro d hd
        obtain ⟨z, rfl, _⟩ := h3 d hd
        rfl
      rw [this]
      rfl
  have e4 : (upTo n).flatMap (nxC cs) = [] := by
    rw [List.flatMap_eq_nil_iff]
    exact fun x _ => e3 x
  refine ⟨List.length_replicate .., ?_, ?_, rfl, ?_, lcs, ?_, ?_, fun x hx => (by cases hx), fun x hx => (by cases hx)⟩
  · intro d hd
    exact .inl (List.eq_of_mem_replicate hd)
  · decide +kernel
  · intro t ht
    simp only [List.mem_cons, List.not_mem_nil, or_false] at ht
    rcases ht with rfl | rfl | rfl <;> omega
  · intro c hc
    obtain ⟨h1, h2, h3⟩ := pl c hc
    refine ⟨by omega, fun d hd => ?_, by omega, by omega⟩
    obtain ⟨z, rfl, a, b⟩ := h3 d hd
    exact .inl ⟨z, rfl, a, b⟩
  · rw [e1, e2, e4]
    exact List.Perm.refl _
theorem nonemp {b : Bool} {ns : List Int} (h : (b && !(ns.map V.int).isEmpty) = true) : 0 < ns.length := by
  cases ns with
  | nil => simp at h
  | cons a r => exact Nat.succ_pos _
theorem rC_app {c : Cl} {v : Int} : (rC (c.1 ++ [.tuple [.str "cell", .int v]], c.2)).Perm (v :: rC c) := by
  unfold rC refs
  rw [List.filterMap_append, List.append_assoc]
  exact List.perm_middle
theorem rC_link {c : Cl} {v : Int} (h : c.2 = 0) (hv : 1 ≤ v) : (rC (c.1, v)).Perm (v :: rC c) := by
  unfold rC
  rw [h]
  have e1 : nz [v] = [v] := by
    have : ¬ v = 0 := by omega
    simp [nz, this]
  have e2 : nz [0] = [] := by rfl
  show (refs c.1 ++ nz [v]).Perm (v :: (refs c.1 ++ nz [0]))
  rw [e1, e2, List.append_nil]
  exact List.perm_append_singleton _ _
section
variable {g O R T C M : Addr} {H0 H : Hp} {ord : List Int} {regs : List PyData} {told : List Int} {cs : List Cl} {met : List Int} {adr : List (Addr × Addr)}
theorem HS.at {n : Nat} {y : Int} (S : HS g O R T C M H0 H ord regs told cs met adr) (lcs : cs.length = n) (h1 : 1 ≤ y) (h2 : y ≤ n) : ∃ (p : Addr × Addr) (c : Cl) (vs : List V), adr[(y - 1).toNat]? = some p ∧ cs[(y - 1).toNat]? = some c ∧ atI (adr.map fun p => V.ref p.1) (y - 1) = some (.ref p.1) ∧ H p.1 = some (.lst [.int 0, .ref p.2, .int c.2]) ∧ H p.2 = some (.lst vs) ∧ FVs g H vs c.1 ∧ vs.length = c.1.length := by
  have l1 : (y - 1).toNat < cs.length := by omega
  have l2 : (y - 1).toNat < adr.length := by
    have := S.la
    omega
  have hp : adr[(y - 1).toNat]? = some (adr[(y - 1).toNat]'l2) := List.getElem?_eq_getElem l2
  have hc : cs[(y - 1).toNat]? = some (cs[(y - 1).toNat]'l1) := List.getElem?_eq_getElem l1
  obtain ⟨e1, vs, e2, f⟩ := S.cell _ _ _ hp hc
  exact ⟨_, _, vs, hp, hc, atI_of (by omega) (by rw [List.getElem?_map, hp]; rfl), e1, e2, f, Paired.length f⟩
end
end Cb
set_option Elab.async false
set_option linter.all false
set_option maxRecDepth 100000
set_option maxHeartbeats 4000000
namespace Cb
open PySem PySem.Spec PyProof.Rows L2
abbrev s_l_drawn : Stmt := topS 30
abbrev NLw : List Str := ["_law_generator_here", "_law_many", "_law_order", "_law_at", "_law_registers", "_law_told", "_law_cells", "_law_met", "_law_way", "_law_free", "_law_roomy", "_law_loose", "_law_turn", "_law_place", "_law_other", "_law_cell_here"]
theorem sc_l_drawn : FnScope NLw ["_law_generator_here"] (defScope s_l_drawn) := ⟨rfl, rfl, rfl, by decide +kernel, rfl, by decide +kernel, by decide +kernel⟩
structure TLw (K : PySem.W.Frag) (mg : Str → Option Value) : Prop where
  tg : TGen K mg
  d_l_drawn : Has K mg "_law_drawn" s_l_drawn ["_law_generator_here"]
  b_tuple : mg "tuple" = none
def rLenQ (K : PySem.W.Frag) : List V → Hp → VK → Prop := fun xs H Q => ∃ p ys, xs = [.ref p] ∧ (SqL K H p ys ∨ SqT K H p ys) ∧ Q (.int ((ys.length : Nat) : Int)) H
theorem call_lenQ {X : Cx} : CallR X (.builtin "len") (rLenQ X.K) := call_len_seq
def rTof (K : PySem.W.Frag) : List V → Hp → VK → Prop := fun xs H Q => ∃ p ys, xs = [.ref p] ∧ ((SqL K H p ys ∧ ∀ l, H l = none → Q (.ref l) (upd H l (.tup ys))) ∨ (SqT K H p ys ∧ Q (.ref p) H))
theorem call_tof {X : Cx} : CallR X (.type "tuple") (rTof X.K) := call_tuple_of
/-- [x for x in ints if P(x)] -/
theorem lc_fil {Pt : Int → Bool} {n : Nat} {J : It} {G : Hp → Prop} {Y : Nat → Hp → V → Hp → Prop} {i : Nat} {tt : TT} {te : TE} {σ : L2.St} {H1 : Hp} {D : Addr} {Qd : Hp → Prop} {ns : List Int} (wk : Walk J n G Y) (hn : ns.length = n) (y0 : ∀ j H x H', j < n → Y j H x H' → H' = H ∧ ∃ m, ns[j]? = some m ∧ x = .int m) (g0 : ∀ H, Same H1 H → G H) (hD : H1 D = none) (small : n < 1000)
    (hs : ∀ (m : Int) (H' : Hp) (Q : Bool → Hp → Prop), Same H1 H' → m ∈ ns → Q (Pt m) H' → tt ((wipe σ [i]).set i (some (.int m))) H' Q)
    (he : ∀ (m : Int) (H' : Hp) (Q : VK), Q (.int m) H' → te ((wipe σ [i]).set i (some (.int m))) H' Q)
    (hd : ∀ H', Same H1 H' → H' D = some (.lst ((ns.filter Pt).map V.int)) → Qd H') :
    ∃ W : Nat → Nat → Hp → Prop, (∃ m, W 0 m (upd H1 D (.lst []))) ∧ ∀ k m H, W k m H →
      (J.stop k H ∧ Qd H) ∨ (J.go k H ∧ ∃ Nx : Hp → Prop, (∀ H', Nx H' → ∃ m', m' < m ∧ W (k + 1) m' H') ∧ ∀ x H', J.yld k H x H' → gName i x (wipe σ [i]) H' fun σ2 H2 => wipe σ2 [i] = wipe σ [i] ∧ tt σ2 H2 fun b H3 =>
        if b = true then te σ2 H3 fun y H4 => ∃ acc, H4 D = some (.lst acc) ∧ acc.length < sizeLine ∧ Nx (upd H4 D (.lst (acc ++ [y]))) else Nx H3) := by
  refine lc_it wk (fun j H' => Same H1 H' ∧ H' D = some (.lst (((ns.take j).filter Pt).map V.int))) ⟨same_new hD, upd_same⟩ (fun j H' _ z => g0 H' z.1) ?_ ?_
  · rintro j x H H' hj ⟨s1, hd1⟩ y
    obtain ⟨rfl, m, hm, rfl⟩ := y0 _ _ _ _ hj y
    refine ⟨?_, ?_⟩
    · show ((wipe σ [i]).set i (some (.int m))).set i none = wipe σ [i]
      show ((σ.set i none).set i (some (.int m))).set i none = σ.set i none
      rw [List.set_set, List.set_set]
    · refine hs m H' _ s1 (List.mem_of_getElem? hm) ?_
      have et : (ns.take (j + 1)).filter Pt = (ns.take j).filter Pt ++ (if Pt m = true then [m] else []) := by
        rw [List.take_add_one, hm, List.filter_append]
        congr 1
        show List.filter Pt [m] = _
        cases e : Pt m <;> simp [e]
      have ln : ((ns.take j).filter Pt).length ≤ j := Nat.le_trans (List.length_filter_le ..) (by rw [List.length_take]; omega)
      cases hf : Pt m with
      | false =>
        refine iteF ⟨s1, ?_⟩
        rw [hd1, et, hf]
        simp
      | true =>
        refine iteT (he _ _ _ ⟨_, hd1, ?_, ?_, ?_⟩)
        · rw [List.length_map]
          exact small1000' (by omega)
        · intro b o e
          rw [upd_ne (ne_of_none e hD)]
          exact s1 _ _ e
        · rw [upd_same, et, hf, if_pos rfl, List.map_append]
          rfl
  · rintro H' ⟨s1, hd1⟩
    rw [← hn, List.take_length] at hd1
    exact hd H' s1 hd1
theorem y_rg {n : Nat} : ∀ j H x H', j < n → (YFn fun i => V.int (0 + (i : Nat))) j H x H' → H' = H ∧ ∃ m, (upR n)[j]? = some m ∧ x = .int m := fun j H x H' hj y => by
  refine ⟨y.1, (0 : Int) + (j : Nat), ?_, y.2⟩
  unfold upR
  rw [List.getElem?_map, List.getElem?_range hj]
  rfl
theorem y_ls {ns : List Int} {n : Nat} : ∀ j H x H', j < n → YAt (ns.map V.int) j H x H' → H' = H ∧ ∃ m, ns[j]? = some m ∧ x = .int m := fun j H x H' _ y => by
  refine ⟨y.1, ?_⟩
  have := y.2
  rw [List.getElem?_map] at this
  cases e : ns[j]? with
  | none =>
    rw [e] at this
    cases this
  | some m =>
    rw [e] at this
    exact ⟨m, rfl, (Option.some.inj this).symm⟩
theorem Keep.free {S : List Addr} {H H' : Hp} (k : Keep S H H') {p : Addr} (h : H' p = none) (n : p ∉ S) : H p = none := by
  cases e : H p with
  | none => rfl
  | some o =>
    rw [k p o n e] at h
    cases h
section
variable {P : Program} {w : World} {K : PySem.W.Frag} {mg : Str → Option Value} {base : Heap}
def sp_l_drawn : Sp := fun vs H Q _ => ∃ (g : Addr) (s t0 : Int) (n : Nat), vs = [.ref g] ∧ Gn g s t0 n H ∧ 0 ≤ t0 ∧ t0 + (n + 2000 : Nat) < 2 ^ 62 ∧
  ∀ (v : V) (d : PyData) (H' : Hp), DT (hid [g] H') v d → PicB d → formP d = true → forestB d = true → Gn g s t0 (n + 2000) H' → Keep [g] H H' → Q v H'
theorem b_l_drawn (T : TLw K mg) : Body P w K mg base 3 "_law_drawn" s_l_drawn NLw sp_l_drawn := by
  intro f cdv A outer st H vs Q E hr h
  refine ⟨_, (pss_cons (ps_par (i := 1) (j := 2) rfl sc_l_drawn.nd rfl rfl (by decide) rfl rfl (pa_cons (pe_s (c_l_random T.tg) hr (pa_cons (pv 0) (pa_cons pe_int pa_nil))) (pa_cons (pe_lst pa_nil) pa_nil)) rfl)
    (pss_cons (ps_for PassesOwn.never rfl (pi_range2 (by rfl) T.tg.b_range (pa_cons pe_int (pa_cons (pe_op op_add (pv 1) pe_int) pa_nil))) (pg_name (i := 3) sc_l_drawn.nd rfl (.inl rfl))
        (pss_one (ps_expr (pe_bm PySem.F.plainAttrs_list PySem.F.slot_list_insert PySem.F.type_list_insert mt_insert (pv 2) (pa_cons (pe_s (c_l_random T.tg) hr (pa_cons (pv 0) (pa_cons (pv 3) pa_nil))) (pa_cons (pv 3) pa_nil))))))
    (pss_cons (ps_asg (pe_tup (pa_cons (pe_op op_rep (pe_lst (pa_cons pe_non pa_nil)) pe_int) (pa_cons (pe_lst (pa_cons pe_int (pa_cons pe_int (pa_cons pe_int pa_nil)))) (pa_cons (pe_lst pa_nil) (pa_cons (pe_lst pa_nil) pa_nil))))) (pg_tup rfl (pgs_cons (pg_name (i := 4) sc_l_drawn.nd rfl (.inr rfl)) (pgs_cons (pg_name (i := 5) sc_l_drawn.nd rfl (.inr rfl)) (pgs_cons (pg_name (i := 6) sc_l_drawn.nd rfl (.inr rfl)) (pgs_cons (pg_name (i := 7) sc_l_drawn.nd rfl (.inl rfl)) pgs_nil))))))
    (pss_cons (ps_for PassesOwn.never rfl (pi_list (pv 2)) (pg_name (i := 3) sc_l_drawn.nd rfl (.inl rfl))
        (pss_one (ps_expr (pe_bm PySem.F.plainAttrs_list PySem.F.slot_list_append PySem.F.type_list_append mt_append (pv 6) (pa_cons (pe_lst (pa_cons pe_int (pa_cons (pe_lc (own := [("_law_turn", 12)]) (g := gName 12) (tt := tYes) rfl sc_l_drawn.nd (pi_range1 (by rfl) T.tg.b_range (pa_cons (pe_s (c_l_random T.tg) hr (pa_cons (pv 0) (pa_cons pe_int pa_nil))) pa_nil)) (blkOk_by (N := NLw) (sc := defScope s_l_drawn) (own := [("_law_turn", 12)]) (by decide +kernel)) (fun _ _ _ _ _ => pg_name (i := 12) sc_l_drawn.nd rfl (Or.inl rfl)) (fun _ _ _ _ _ => pts_nil) (fun _ _ _ _ _ => (pe_s (c_l_random T.tg) hr (pa_cons (pv 0) (pa_cons pe_int pa_nil))))) (pa_cons pe_int pa_nil)))) pa_nil)))))
    (pss_cons (ps_for PassesOwn.never rfl (pi_list (pv 2)) (pg_name (i := 3) sc_l_drawn.nd rfl (.inl rfl))
        (pss_cons (ps_set (i := 8) sc_l_drawn.nd rfl (.inl rfl) (pe_s (c_l_random T.tg) hr (pa_cons (pv 0) (pa_cons pe_int pa_nil))))
        (pss_cons (ps_setLc (i := 9) (own := [("_law_place", 13)]) (g := gName 13) rfl sc_l_drawn.nd rfl rfl (sw_true rfl rfl rfl (by decide +kernel)) (pi_range1 (by rfl) T.tg.b_range (pa_cons pe_int pa_nil)) (blkOk_by (N := NLw) (sc := defScope s_l_drawn) (own := [("_law_place", 13)]) (by decide +kernel)) (fun _ _ _ _ _ => pg_name (i := 13) sc_l_drawn.nd rfl (Or.inl rfl)) (fun _ _ _ _ _ => pts_one (pt_cmpR op_eq (pe_ix (r := rIxL K) ix_list (pv 5) (pv 13) (fun _ _ => rfl)) pe_int (nomark _))) (fun _ _ _ _ _ => (pv 13)))
        (pss_cons (ps_setLc (i := 10) (own := [("_law_other", 14)]) (g := gName 14) rfl sc_l_drawn.nd rfl rfl (sw_true rfl rfl rfl (by decide +kernel)) (pi_list (pv 7)) (blkOk_by (N := NLw) (sc := defScope s_l_drawn) (own := [("_law_other", 14)]) (by decide +kernel)) (fun _ _ _ _ _ => pg_name (i := 14) sc_l_drawn.nd rfl (Or.inl rfl)) (fun _ _ _ _ _ => pts_one (pt_cmpR op_lt (pe_callB (id := "len") (r := rLenQ K) call_lenQ (by rfl) T.tg.b_len (by decide +kernel) (pa_cons (pe_ix (r := rIxL K) ix_list (pe_ix (r := rIxL K) ix_list (pv 6) (pe_op op_sub (pv 14) pe_int) (fun _ _ => rfl)) pe_int (fun _ _ => rfl)) pa_nil)) pe_int (nomark _))) (fun _ _ _ _ _ => (pv 14)))
        (pss_cons (ps_setLc (i := 11) (own := [("_law_other", 14)]) (g := gName 14) rfl sc_l_drawn.nd rfl rfl (sw_true rfl rfl rfl (by decide +kernel)) (pi_list (pv 7)) (blkOk_by (N := NLw) (sc := defScope s_l_drawn) (own := [("_law_other", 14)]) (by decide +kernel)) (fun _ _ _ _ _ => pg_name (i := 14) sc_l_drawn.nd rfl (Or.inl rfl)) (fun _ _ _ _ _ => pts_one (pt_cmpR op_eq (pe_ix (r := rIxL K) ix_list (pe_ix (r := rIxL K) ix_list (pv 6) (pe_op op_sub (pv 14) pe_int) (fun _ _ => rfl)) pe_int (fun _ _ => rfl)) pe_int (nomark _))) (fun _ _ _ _ _ => (pv 14)))
        (pss_cons (ps_if (PW.pt (pw_and (pt_cmpR op_lt (pv 8) pe_int (nomark _)) (pw_and1 (pt_cmpR (op_neNil hr.units) (pv 10) (pe_lst pa_nil) (nomark _)))))
            (pss_one (ps_expr (pe_bm PySem.F.plainAttrs_list PySem.F.slot_list_append PySem.F.type_list_append mt_append (pe_ix ix_list (pe_ix ix_list (pv 6) (pe_op op_sub (pe_ix ix_list (pv 10) (pe_s (c_l_random T.tg) hr (pa_cons (pv 0) (pa_cons (pe_callB call_len_seq (by rfl) T.tg.b_len (by decide +kernel) (pa_cons (pv 10) pa_nil)) pa_nil))) (fun _ _ => rfl)) pe_int) (fun _ _ => rfl)) pe_int (fun _ _ => rfl)) (pa_cons (pe_tup (pa_cons pe_str (pa_cons (pv 3) pa_nil))) pa_nil))))
            (pss_one (ps_if (PW.pt (pw_and (pt_cmpR op_eq (pv 8) pe_int (nomark _)) (pw_and1 (pt_cmpR (op_neNil hr.units) (pv 11) (pe_lst pa_nil) (nomark _)))))
                (pss_one (ps_asg (pv 3) (pg_sub (pe_ix ix_list (pv 6) (pe_op op_sub (pe_ix ix_list (pv 11) (pe_s (c_l_random T.tg) hr (pa_cons (pv 0) (pa_cons (pe_callB call_len_seq (by rfl) T.tg.b_len (by decide +kernel) (pa_cons (pv 11) pa_nil)) pa_nil))) (fun _ _ => rfl)) pe_int) (fun _ _ => rfl)) pe_int set_list)))
                (pss_one (ps_if (PW.pt (pw_and (pt_cmpR op_eq (pv 8) pe_int (nomark _)) (pw_and1 (pt_cmpR (op_neNil hr.units) (pv 9) (pe_lst pa_nil) (nomark _)))))
                    (pss_one (ps_asg (pv 3) (pg_sub (pv 5) (pe_ix ix_list (pv 9) (pe_s (c_l_random T.tg) hr (pa_cons (pv 0) (pa_cons (pe_callB call_len_seq (by rfl) T.tg.b_len (by decide +kernel) (pa_cons (pv 9) pa_nil)) pa_nil))) (fun _ _ => rfl)) set_list)))
                    (pss_one (ps_asg (pe_tup (pa_cons (pe_ix ix_list (pe_lst (pa_cons pe_str (pa_cons pe_str pa_nil))) (pe_s (c_l_random T.tg) hr (pa_cons (pv 0) (pa_cons pe_int pa_nil))) (fun _ _ => rfl)) (pa_cons (pv 3) pa_nil))) (pg_sub (pv 4) (pe_ix ix_list (pe_lc (own := [("_law_place", 13)]) (g := gName 13) rfl sc_l_drawn.nd (pi_range1 (by rfl) T.tg.b_range (pa_cons pe_int pa_nil)) (blkOk_by (N := NLw) (sc := defScope s_l_drawn) (own := [("_law_place", 13)]) (by decide +kernel)) (fun _ _ _ _ _ => pg_name (i := 13) sc_l_drawn.nd rfl (Or.inl rfl)) (fun _ _ _ _ _ => pts_one (pt_cmpR op_isN (pe_ix (r := rIxL K) ix_list (pv 4) (pv 13) (fun _ _ => rfl)) pe_non (nomark _))) (fun _ _ _ _ _ => (pv 13))) (pe_s (c_l_random T.tg) hr (pa_cons (pv 0) (pa_cons pe_int pa_nil))) (fun _ _ => rfl)) set_list))))))))
        (pss_one (ps_expr (pe_bm PySem.F.plainAttrs_list PySem.F.slot_list_append PySem.F.type_list_append mt_append (pv 7) (pa_cons (pv 3) pa_nil))))))))))
    (pss_one (ps_ret (pe_tup (pa_cons (pv 4) (pa_cons (pe_ix ix_list (pv 5) pe_int (fun _ _ => rfl)) (pa_cons (pe_ix ix_list (pv 5) pe_int (fun _ _ => rfl)) (pa_cons (pe_ix ix_list (pv 5) pe_int (fun _ _ => rfl)) (pa_cons (pe_lc (own := [("_law_cell_here", 15)]) (g := gName 15) (tt := tYes) rfl sc_l_drawn.nd (pi_list (pv 6)) (blkOk_by (N := NLw) (sc := defScope s_l_drawn) (own := [("_law_cell_here", 15)]) (by decide +kernel)) (fun _ _ _ _ _ => pg_name (i := 15) sc_l_drawn.nd rfl (Or.inl rfl)) (fun _ _ _ _ _ => pts_nil) (fun _ _ _ _ _ => (pe_tup (pa_cons pe_str (pa_cons (pe_callTy (T := "tuple") (r := rTof K) call_tof (by rfl) T.b_tuple (by decide +kernel) (pa_cons (pe_ix (r := rIxL K) ix_list (pv 15) pe_int (fun _ _ => rfl)) pa_nil)) (pa_cons (pe_ix (r := rIxL K) ix_list (pv 15) pe_int (fun _ _ => rfl)) pa_nil)))))) pa_nil))))))))))))), ?_⟩
  obtain ⟨g, s0, t0, n0, rfl, G, h0, h1, q⟩ := h
  refine ⟨_, rfl, draw G h0 (by omega) (by decide) (by decide) fun r H1 r0 r1 G1 k1 => ⟨Nat.zero_le _, fun O nO => ⟨_, _, rfl, ?_⟩⟩⟩
  obtain ⟨nn, rfl⟩ : ∃ nn : Nat, r = (nn : Int) := ⟨r.toNat, (Int.toNat_of_nonneg r0).symm⟩
  have hn9 : nn ≤ 9 := by omega
  have nO0 : H O = none := (k1.free nO (nin1 (G1.some nO)))
  have nOg := G1.some nO
  have k2 : Keep [g] H (upd H1 O (.lst [])) := k1.trans (keep_new nO)
  have hO2 : (upd H1 O (.lst [])) O = some (.lst (([] : List Int).map V.int)) := upd_same
  have G2 := G1.new (o := .lst []) nO
  generalize upd H1 O (.lst []) = H2 at k2 hO2 G2 ⊢
  refine ⟨_, rfl, _, _, rfl, rfl, 1, (nn : Int) + 1, rfl, ⟨by decide, by decide, by omega, by omega⟩, ?_⟩
  rw [show ((nn : Int) + 1 - 1).toNat = nn by omega]
  refine for_range (lo := 1) (n := nn) (fun i σ H' => (∃ x3 : Option V, σ = [some (.ref g), some (.int nn), some (.ref O), x3, none, none, none, none, none, none, none, none, none, none, none, none]) ∧ Keep [g] H H' ∧ Gn g s0 t0 (n0 + 8 + 8 * i) H' ∧ ∃ ord : List Int, H' O = some (.lst (ord.map V.int)) ∧ ord.Perm (upTo i)) ⟨⟨none, rfl⟩, k2, G2, [], hO2, List.Perm.refl _⟩ ?_ ?_
  · rintro i σ H3 hi ⟨⟨x3, rfl⟩, k3, G3, ord, hO3, pm⟩
    have lo3 : ord.length = i := by rw [pm.length_eq, upTo_len]
    refine ⟨_, rfl, .inl ⟨rfl, _, SqL.of hO3⟩, _, rfl, _, rfl, draw G3 h0 (by omega) (by omega) (Nat.lt_of_lt_of_le (show ((1 : Int) + (i : Nat)).natAbs < 2 ^ 11 by omega) (Nat.pow_le_pow_right (by decide) (by decide))) fun z H4 z0 z1 G4 k4 => ?_⟩
    have hO4 := k4 _ _ (nin1 nOg) hO3
    refine ⟨_, rfl, O, _, z, _, rfl, rfl, hO4, by rw [List.length_map]; exact small1000' (by omega), z0, by omega, ⟨_, rfl⟩, ?_, ?_, ord.take z.toNat ++ [1 + (i : Int)] ++ ord.drop z.toNat, ?_, ?_⟩
    · intro b o nb e
      rw [upd_ne (ne_of_none e nO0)]
      exact k4 _ _ nb (k3 _ _ nb e)
    · exact (G4.off (Ne.symm nOg)).mono (by omega)
    · rw [upd_same]
      simp [List.map_take, List.map_drop]
    · have e1 : upTo (i + 1) = upTo i ++ [1 + (i : Int)] := by
        unfold upTo
        rw [List.range_succ, List.map_append]
        rfl
      rw [e1]
      have e2 : (ord.take z.toNat ++ [1 + (i : Int)] ++ ord.drop z.toNat).Perm (ord ++ [1 + (i : Int)]) := by
        rw [List.append_assoc]
        have := List.perm_middle (a := 1 + (i : Int)) (l₁ := ord.take z.toNat) (l₂ := ord.drop z.toNat)
        rw [List.take_append_drop] at this
        exact this.trans (List.perm_append_singleton _ _).symm
      exact e2.trans (pm.append_right _)
  rintro σ H3 ⟨⟨x3, rfl⟩, k3, G3, ord, hO3, pm⟩
  have lo3 : ord.length = nn := by rw [pm.length_eq, upTo_len]
  clear k2 hO2 G2 k1 G1 nO r0 r1
  refine ⟨Nat.le_of_lt (by decide), fun z1 nz1 => ?_⟩
  have sA := same_new (o := .lst [.non]) nz1
  have hz1 : (upd H3 z1 (.lst [.non])) z1 = some (.lst [.non]) := upd_same
  generalize upd H3 z1 (.lst [.non]) = H4 at sA hz1 ⊢
  refine ⟨z1, 64, _, rfl, rfl, hz1, by decide, by decide, (show 1 * 64 ≤ sizeLine by decide), fun R nR => ?_⟩
  rw [show (List.replicate (Int.toNat 64) [V.non]).flatten = List.replicate 64 V.non from rfl]
  have nR3 := sA.free nR
  have sB := sA.trans (same_new (o := .lst (List.replicate 64 V.non)) nR)
  have hR : (upd H4 R (.lst (List.replicate 64 V.non))) R = some (.lst (List.replicate 64 V.non)) := upd_same
  generalize upd H4 R (.lst (List.replicate 64 V.non)) = H5 at sB hR ⊢
  refine ⟨(show 3 ≤ sizeLine by decide), fun T nT => ?_⟩
  have nT3 := sB.free nT
  have neRT := ne_of_none hR nT
  have sC := sB.trans (same_new (o := .lst [.int 0, .int 0, .int 0]) nT)
  have hR := same_new (o := .lst [.int 0, .int 0, .int 0]) nT _ _ hR
  have hT : (upd H5 T (.lst [.int 0, .int 0, .int 0])) T = some (.lst (([0, 0, 0] : List Int).map V.int)) := upd_same
  generalize upd H5 T (.lst [.int 0, .int 0, .int 0]) = H6 at sC hR hT ⊢
  refine ⟨(show 0 ≤ sizeLine by decide), fun C nC => ?_⟩
  have nC3 := sC.free nC
  have neRC := ne_of_none hR nC
  have neTC := ne_of_none hT nC
  have sD := sC.trans (same_new (o := .lst []) nC)
  have hR := same_new (o := .lst []) nC _ _ hR
  have hT := same_new (o := .lst []) nC _ _ hT
  have hC : (upd H6 C (.lst [])) C = some (.lst []) := upd_same
  generalize upd H6 C (.lst []) = H7 at sD hR hT hC ⊢
  refine ⟨(show 0 ≤ sizeLine by decide), fun M nM => ?_⟩
  have nM3 := sD.free nM
  have neRM := ne_of_none hR nM
  have neTM := ne_of_none hT nM
  have neCM := ne_of_none hC nM
  have sE := sD.trans (same_new (o := .lst []) nM)
  have hR := same_new (o := .lst []) nM _ _ hR
  have hT := same_new (o := .lst []) nM _ _ hT
  have hC := same_new (o := .lst []) nM _ _ hC
  have hM : (upd H7 M (.lst [])) M = some (.lst (([] : List Int).map V.int)) := upd_same
  generalize upd H7 M (.lst []) = H8 at sE hR hT hC hM ⊢
  refine ⟨(show 4 ≤ sizeLine by decide), fun U nU => ?_⟩
  have sF := sE.trans (same_new (o := .tup [.ref R, .ref T, .ref C, .ref M]) nU)
  have hR := same_new (o := .tup [.ref R, .ref T, .ref C, .ref M]) nU _ _ hR
  have hT := same_new (o := .tup [.ref R, .ref T, .ref C, .ref M]) nU _ _ hT
  have hC := same_new (o := .tup [.ref R, .ref T, .ref C, .ref M]) nU _ _ hC
  have hM := same_new (o := .tup [.ref R, .ref T, .ref C, .ref M]) nU _ _ hM
  have hU : (upd H8 U (.tup [.ref R, .ref T, .ref C, .ref M])) U = some (.tup [.ref R, .ref T, .ref C, .ref M]) := upd_same
  generalize upd H8 U (.tup [.ref R, .ref T, .ref C, .ref M]) = H9 at sF hR hT hC hM hU ⊢
  refine ⟨U, _, rfl, SqT.of hU, rfl, _, _, rfl, _, _, rfl, _, _, rfl, _, _, rfl, rfl, ?_⟩
  have hO9 := sF _ _ hO3
  have G9 := G3.same sF
  have S : HS g O R T C M H H9 ord (List.replicate 64 .none) [0, 0, 0] [] [] [] := by
    have ng : R ≠ g ∧ T ≠ g ∧ C ≠ g ∧ M ≠ g := ⟨G3.some nR3, G3.some nT3, G3.some nC3, G3.some nM3⟩
    have nOo : O ≠ R ∧ O ≠ T ∧ O ≠ C ∧ O ≠ M := ⟨ne_of_none hO3 nR3, ne_of_none hO3 nT3, ne_of_none hO3 nC3, ne_of_none hO3 nM3⟩
    refine ⟨k3.trans (same_keep sF), ?_, ?_, hO9, ⟨_, hR, fvs_non 64⟩, hT, hM, hC, rfl, fun j p x hp => (by simp at hp), fun p hp => (by cases hp), fun i j p q hp => (by simp at hp)⟩
    · unfold six
      simp only [List.nodup_cons, List.mem_cons, List.not_mem_nil, or_false, not_or, not_false_eq_true, List.nodup_nil, and_true]
      exact ⟨⟨Ne.symm nOg, Ne.symm ng.1, Ne.symm ng.2.1, Ne.symm ng.2.2.1, Ne.symm ng.2.2.2⟩, nOo, ⟨neRT, neRC, neRM⟩, ⟨neTC, neTM⟩, neCM⟩
    · intro a ha hag
      unfold six at ha
      simp only [List.mem_cons, List.not_mem_nil, or_false] at ha
      rcases ha with rfl | rfl | rfl | rfl | rfl | rfl
      · exact absurd rfl hag
      · exact nO0
      · exact k3.free nR3 (nin1 ng.1)
      · exact k3.free nT3 (nin1 ng.2.1)
      · exact k3.free nC3 (nin1 ng.2.2.1)
      · exact k3.free nM3 (nin1 ng.2.2.2)
  clear hO9 hU hM hC hT hR sF nU sE nM neRM neTM neCM sD nC neRC neTC sC nT neRT sB nR hz1 sA nz1 nM3 nC3 nT3 nR3 hO3 k3 G3
  have cuts : ∀ i : Nat, i ≤ nn → i ≤ 9 := fun i h => by omega
  refine ⟨_, rfl, O, rfl, ⟨_, SqL.of S.hO⟩, ?_⟩
  refine for_list (xs := ord.map V.int) (fun i σ H' => (∃ x3 : Option V, σ = [some (.ref g), some (.int nn), some (.ref O), x3, some (.ref R), some (.ref T), some (.ref C), some (.ref M), none, none, none, none, none, none, none, none]) ∧ Gn g s0 t0 (n0 + 8 + 8 * nn + 40 * i) H' ∧
      ∃ (cs : List Cl) (adr : List (Addr × Addr)), HS g O R T C M H H' ord (List.replicate 64 .none) [0, 0, 0] cs [] adr ∧ cs.length = i ∧ ∀ c ∈ cs, c.2 = 0 ∧ c.1.length ≤ 2 ∧ ∀ d ∈ c.1, ∃ z : Int, d = .int z ∧ 0 ≤ z ∧ z < 9)
    ⟨⟨_, rfl⟩, G9, [], [], S, rfl, fun c hc => (by cases hc)⟩ (fun i σ H' _ z => by obtain ⟨_, _, _, _, S, _⟩ := z; exact SqL.of S.hO) ?_ ?_
  · rintro i x σ H3 hx ⟨⟨x3, rfl⟩, G3, cs, adr, S, lcs, pl⟩
    have hi : i < nn := by
      have := (List.getElem?_eq_some_iff.mp hx).1
      rw [List.length_map] at this
      omega
    refine ⟨_, rfl, .inl ⟨rfl, _, SqL.of S.hC⟩, ?_⟩
    refine ⟨_, rfl, draw G3 h0 (by omega) (by decide) (by decide) fun r H4 r0 r1 G4 k4 => ⟨r, rfl, by omega, by omega, fun D nD => ?_⟩⟩
    have S4 := S.kept k4
    obtain ⟨mD, zD, oD⟩ := S4.fresh G4 nD
    have nDg := (not_six mD).1
    refine lc_it (walk_range (lo := 0) (n := r.toNat)) (fun j H' => Keep [g] H4 H' ∧ Gn g s0 t0 (n0 + 8 + 8 * nn + 40 * i + 8 + 8 * j) H' ∧ ∃ is : List Int, H' D = some (.lst (is.map V.int)) ∧ is.length = j ∧ ∀ z ∈ is, 0 ≤ z ∧ z < 9) ⟨keep_new nD, G4.new nD, [], upd_same, rfl, fun z hz => (by cases hz)⟩ (fun _ _ _ _ => trivial) ?_ ?_
    · rintro j y Ha Hb hj ⟨ka, Ga, is, hD, li, inn⟩ ⟨rfl, rfl⟩
      refine ⟨rfl, _, rfl, draw Ga h0 (by omega) (by decide) (by decide) fun z Hc z0 z1 Gc kc => ⟨_, kc _ _ (nin1 nDg) hD, ?_, ?_, ?_, is ++ [z], ?_, ?_, ?_⟩⟩
      · rw [List.length_map]
        exact small1000' (by omega)
      · intro b o nb e
        rw [upd_ne (ne_of_none e nD)]
        exact kc _ _ nb (ka _ _ nb e)
      · exact (Gc.off (Ne.symm nDg)).mono (by omega)
      · rw [upd_same, List.map_append]
        rfl
      · rw [List.length_append, li]
        rfl
      · intro y hy
        rcases List.mem_append.mp hy with hy | hy
        · exact inn y hy
        · rw [List.mem_singleton.mp hy]
          exact ⟨z0, z1⟩
    · rintro Hb ⟨kb, Gb, is, hD, li, inn⟩
      refine ⟨(show 3 ≤ sizeLine by decide), fun c nc => ?_⟩
      have Sb := S4.kept kb
      obtain ⟨mc, zc, oc⟩ := Sb.fresh Gb nc
      have Sc := Sb.kept (keep_new (o := .lst [.int 0, .ref D, .int 0]) nc)
      have neD : c ≠ D := (ne_of_none hD nc).symm
      have hDc := same_new (o := .lst [.int 0, .ref D, .int 0]) nc _ _ hD
      have hc : (upd Hb c (.lst [.int 0, .ref D, .int 0])) c = some (.lst [.int 0, .ref D, .int 0]) := upd_same
      have Gc := Gb.new (o := .lst [.int 0, .ref D, .int 0]) nc
      generalize upd Hb c (.lst [.int 0, .ref D, .int 0]) = Hc at Sc hDc hc Gc ⊢
      have Sn := Sc.addC (p := (c, D)) (x := (is.map .int, 0)) hc hDc (fvs_ints is) neD zc zD mc mD fun q hq => ⟨(oc q hq).1, (oD q hq).2, (oD q hq).1, Ne.symm (oc q hq).2⟩
      have la := S.la
      refine ⟨C, _, _, rfl, rfl, Sc.hC, ?_, ⟨_, rfl⟩, (Gc.off (Ne.symm ?_)).mono (by omega), cs ++ [(is.map .int, 0)], adr ++ [(c, D)], ?_, ?_, ?_⟩
      · rw [List.length_map]
        exact small1000' (by omega)
      · exact (six_ne S.nd).2.2.2.1
      · rw [List.map_append] at Sn
        exact Sn
      · rw [List.length_append, lcs]
        rfl
      · intro y hy
        rcases List.mem_append.mp hy with hy | hy
        · exact pl y hy
        · rw [List.mem_singleton.mp hy]
          refine ⟨rfl, ?_, fun d hd => ?_⟩
          · show (is.map PyData.int).length ≤ 2
            rw [List.length_map, li]
            omega
          · obtain ⟨z, hz, rfl⟩ := List.mem_map.mp hd
            exact ⟨z, rfl, inn z hz⟩
  rintro σ H3 ⟨⟨x3, rfl⟩, G3, cs, adr, S3, lcs, pl⟩
  rw [List.length_map, lo3] at G3 lcs
  clear S G9
  have SZ := SI.zero lcs pl
  have pos : ∀ x ∈ ord, 1 ≤ x ∧ x ≤ (nn : Int) := fun x hx => mem_upTo.mp (pm.mem_iff.mp hx)
  refine ⟨_, rfl, O, rfl, ⟨_, SqL.of S3.hO⟩, ?_⟩
  refine for_list (xs := ord.map V.int) (fun i σ H' => (∃ x3 x8 x9 x10 x11 : Option V, σ = [some (.ref g), some (.int nn), some (.ref O), x3, some (.ref R), some (.ref T), some (.ref C), some (.ref M), x8, x9, x10, x11, none, none, none, none]) ∧ Gn g s0 t0 (n0 + 500 + 60 * i) H' ∧
      ∃ (regs : List PyData) (told : List Int) (cs : List Cl), HS g O R T C M H H' ord regs told cs (ord.take i) adr ∧ SI nn (ord.take i) regs told cs)
    ⟨⟨_, _, _, _, _, rfl⟩, G3.mono (by omega), _, _, _, S3, SZ⟩ (fun i σ H' _ z => by obtain ⟨_, _, _, _, _, S, _⟩ := z; exact SqL.of S.hO) ?_ ?_
  · rintro i x σ H4 hx ⟨⟨x3, x8, x9, x10, x11, rfl⟩, G4, regs, told, cs, S4, I4⟩
    have hi : i < nn := by
      have := (List.getElem?_eq_some_iff.mp hx).1
      rw [List.length_map] at this
      omega
    obtain ⟨v, hv, rfl⟩ : ∃ v, ord[i]? = some v ∧ x = .int v := by
      rw [List.getElem?_map] at hx
      cases e : ord[i]? with
      | none =>
        rw [e] at hx
        cases hx
      | some m =>
        rw [e] at hx
        exact ⟨m, rfl, (Option.some.inj hx).symm⟩
    have hv1 := pos v (List.mem_of_getElem? hv)
    have etake : ord.take (i + 1) = ord.take i ++ [v] := by
      rw [List.take_add_one, hv]
      rfl
    have lmet : (ord.take i).length = i := by rw [List.length_take]; omega
    rw [etake]
    generalize ord.take i = met at S4 I4 lmet ⊢
    clear etake hx S3 SZ
    refine ⟨_, rfl, draw G4 h0 (by omega) (by decide) (by decide) fun way H5 w0 w1 G5 k5 => ?_⟩
    have S5 := S4.kept k5
    clear S4 G4
    -- free
    refine ⟨3, rfl, by decide, by decide, fun D1 nD1 => ?_⟩
    refine lc_fil (Pt := freeP told) (ns := upR 3) (walk_range (lo := 0) (n := 3)) (upR_len 3) y_rg (fun _ _ => trivial) nD1 (by decide) ?_ (fun m H' Q q => ⟨_, rfl, q⟩) fun H6 s6 hD6 => ?_
    · intro m H' Q' s' hm q'
      obtain ⟨m0, m1⟩ := mem_upR hm
      have l3 := I4.l3
      have hm3 : m.toNat < told.length := by omega
      have ht : told[m.toNat]? = some (told[m.toNat]'hm3) := List.getElem?_eq_getElem hm3
      have ef : freeP told m = decide (told[m.toNat]'hm3 = 0) := by
        unfold freeP
        rw [ht]
      rw [ef] at q'
      generalize told[m.toNat]'hm3 = y at ht q'
      refine ⟨_, rfl, _, rfl, T, _, m, _, rfl, rfl, SqL.of (s' _ _ S5.hT), atI_ints m0 ht, rfl, _, rfl, ?_⟩
      by_cases hy : y = 0
      · rw [decide_eq_true hy] at q'
        rw [decide_eq_true (congrArg V.int hy)]
        exact q'
      · rw [decide_eq_false hy] at q'
        rw [decide_eq_false fun e => hy (V.int.inj e)]
        exact q'
    have S6 := S5.kept (same_keep s6)
    have G6 := G5.same s6
    have nD1g := G5.some nD1
    clear S5 G5
    -- roomy
    refine ⟨_, rfl, M, rfl, ⟨_, SqL.of S6.hM⟩, fun D2 nD2 => ?_⟩
    refine lc_fil (Pt := roomP cs) (ns := met) (walk_list (K := K) (a := M) (xs := met.map V.int)) (by rw [List.length_map]) y_ls (fun H' s' => SqL.of (s' _ _ S6.hM)) nD2 (by rw [List.length_map]; omega) ?_ (fun m H' Q q => ⟨_, rfl, q⟩) fun H7 s7 hD7 => ?_
    · intro m H' Q' s' hm q'
      obtain ⟨m0, m1⟩ := I4.inn m hm
      have S' := S6.kept (same_keep s')
      obtain ⟨p, c, vs, hp, hc, hat, e1, e2, _, lv⟩ := S'.at I4.lcs m0 m1
      have ef : roomP cs m = decide (c.1.length < 4) := by
        unfold roomP
        rw [hc]
      rw [ef] at q'
      refine ⟨_, rfl, _, rfl, _, _, rfl, rfl, C, _, m - 1, _, rfl, rfl, SqL.of S'.hC, hat, p.1, _, 1, _, rfl, rfl, SqL.of e1, rfl, p.2, vs, rfl, .inl (SqL.of e2), _, _, rfl, rfl, _, rfl, ?_⟩
      rw [lv]
      by_cases hy : c.1.length < 4
      · rw [decide_eq_true hy] at q'
        rw [decide_eq_true (show ((c.1.length : Nat) : Int) < 4 by omega)]
        exact q'
      · rw [decide_eq_false hy] at q'
        rw [decide_eq_false (show ¬ ((c.1.length : Nat) : Int) < 4 by omega)]
        exact q'
    have S7 := S6.kept (same_keep s7)
    have G7 := G6.same s7
    have hD67 := s7 _ _ hD6
    have nD2g := G6.some nD2
    clear S6 G6
    -- loose
    refine ⟨_, rfl, M, rfl, ⟨_, SqL.of S7.hM⟩, fun D3 nD3 => ?_⟩
    refine lc_fil (Pt := looseP cs) (ns := met) (walk_list (K := K) (a := M) (xs := met.map V.int)) (by rw [List.length_map]) y_ls (fun H' s' => SqL.of (s' _ _ S7.hM)) nD3 (by rw [List.length_map]; omega) ?_ (fun m H' Q q => ⟨_, rfl, q⟩) fun H8 s8 hD8 => ?_
    · intro m H' Q' s' hm q'
      obtain ⟨m0, m1⟩ := I4.inn m hm
      have S' := S7.kept (same_keep s')
      obtain ⟨p, c, vs, hp, hc, hat, e1, e2, _, lv⟩ := S'.at I4.lcs m0 m1
      have ef : looseP cs m = decide (c.2 = 0) := by
        unfold looseP
        rw [hc]
      rw [ef] at q'
      refine ⟨_, rfl, _, rfl, _, _, rfl, rfl, C, _, m - 1, _, rfl, rfl, SqL.of S'.hC, hat, p.1, _, 2, _, rfl, rfl, SqL.of e1, rfl, rfl, _, rfl, ?_⟩
      by_cases hy : c.2 = 0
      · rw [decide_eq_true hy] at q'
        rw [decide_eq_true (congrArg V.int hy)]
        exact q'
      · rw [decide_eq_false hy] at q'
        rw [decide_eq_false fun e => hy (V.int.inj e)]
        exact q'
    have S8 := S7.kept (same_keep s8)
    have G8 := G7.same s8
    have nD3g := G7.some nD3
    have hF := s8 _ _ hD67
    have hRo := s8 _ _ hD7
    have hLo := hD8
    clear S7 G7 hD6 hD7 hD8 hD67 s7 s8 s6 nD1 nD2 nD3 k5
    dsimp only [gName, tSeq, tIfS]
    refine and_test (b := decide (way < 2)) (D := D2) (xs := (met.filter (roomP cs)).map V.int) (fun Q' z => ⟨_, rfl, _, _, rfl, rfl, z⟩) rfl hRo fun H9 s9 => ?_
    have S9 := S8.kept (same_keep s9)
    have G9 := G8.same s9
    have hF := s9 _ _ hF
    have hRo := s9 _ _ hRo
    have hLo := s9 _ _ hLo
    clear S8 G8 s9
    cases hA : (decide (way < 2) && !((met.filter (roomP cs)).map V.int).isEmpty) with
    | true =>
      refine iteT ?_
      have hlen := nonemp hA
      have lfil : (met.filter (roomP cs)).length ≤ 9 := Nat.le_trans (List.length_filter_le ..) (by omega)
      refine ⟨_, rfl, _, rfl, _, rfl, _, rfl, D2, _, rfl, .inl (SqL.of hRo), draw G9 h0 (by omega) (by rw [List.length_map]; omega) (Nat.lt_of_lt_of_le (show (((((met.filter (roomP cs)).map V.int).length : Nat) : Int)).natAbs < 2 ^ 11 by rw [List.length_map]; omega) (Nat.pow_le_pow_right (by decide) (by decide))) fun r Ha r0 r1 Ga ka => ?_⟩
      rw [List.length_map] at r1
      obtain ⟨y, hy, ym, yP⟩ := pick r0 r1
      obtain ⟨y1, y2⟩ := I4.inn y ym
      have Sa := S9.kept ka
      obtain ⟨p, c, vs, hp, hc, hat, e1, e2, fvs, lv⟩ := Sa.at I4.lcs y1 y2
      have room : c.1.length < 4 := by
        unfold roomP at yP
        rw [hc] at yP
        exact of_decide_eq_true yP
      refine ⟨D2, _, r, _, rfl, rfl, SqL.of (ka _ _ (nin1 nD2g) hRo), atI_ints r0 hy, _, _, rfl, rfl, C, _, y - 1, _, rfl, rfl, SqL.of Sa.hC, hat, p.1, _, 1, _, rfl, rfl, SqL.of e1, rfl, .inl ⟨rfl, _, SqL.of e2⟩, _, rfl, (show 2 ≤ sizeLine by decide), fun t nt => ?_⟩
      have Sb := Sa.kept (keep_new (o := .tup [.str "cell", .int v]) nt)
      have Gb := Ga.new (o := .tup [.str "cell", .int v]) nt
      have e2b := same_new (o := .tup [.str "cell", .int v]) nt _ _ e2
      have ht : (upd Ha t (.tup [.str "cell", .int v])) t = some (.tup [.str "cell", .int v]) := upd_same
      have ntg := Ga.some nt
      generalize upd Ha t (.tup [.str "cell", .int v]) = Hb at Sb Gb e2b ht ⊢
      refine ⟨p.2, vs, _, rfl, rfl, e2b, small1000' (by omega), ?_⟩
      have Sc := Sb.setK hp hc e2b (.tup ntg ht)
      have Gc := Gb.off (o := .lst (vs ++ [.ref t])) (Ne.symm (not_six (Sb.new p (List.mem_of_getElem? hp)).2.2.2).1)
      have Ic := I4.cell ym hc (rC_app (v := v)) (show okCl nn (c.1 ++ [.tuple [.str "cell", .int v]], c.2) from ⟨by rw [List.length_append]; exact room, fun d hd => (List.mem_append.mp hd).elim ((I4.cs1 c (List.mem_of_getElem? hc)).2.1 d) fun hd => .inr ⟨v, List.mem_singleton.mp hd, hv1.1, hv1.2⟩, (I4.cs1 c (List.mem_of_getElem? hc)).2.2⟩) hv1.1 hv1.2
      generalize upd Hb p.2 (.lst (vs ++ [.ref t])) = Hc at Sc Gc ⊢
      refine ⟨_, rfl, .inl ⟨rfl, _, SqL.of Sc.hM⟩, _, rfl, M, _, _, rfl, rfl, Sc.hM, by rw [List.length_map]; exact small1000' (by omega), ⟨_, _, _, _, _, rfl⟩, (Gc.off (Ne.symm (six_ne Sc.nd).2.2.2.2.1)).mono (by omega), _, _, _, ?_, Ic⟩
      have := Sc.setM (met' := met ++ [v])
      rw [List.map_append] at this
      exact this
    | false =>
    refine iteF ?_
    clear hA hRo
    refine and_test (b := decide (V.int way = V.int 2)) (D := D3) (xs := (met.filter (looseP cs)).map V.int) (fun Q' z => ⟨_, rfl, rfl, z⟩) rfl hLo fun H10 s10 => ?_
    have S10 := S9.kept (same_keep s10)
    have G10 := G9.same s10
    have hF := s10 _ _ hF
    have hLo := s10 _ _ hLo
    clear S9 G9 s10
    cases hB : (decide (V.int way = V.int 2) && !((met.filter (looseP cs)).map V.int).isEmpty) with
    | true =>
      refine iteT ?_
      have hlen := nonemp hB
      have lfil : (met.filter (looseP cs)).length ≤ 9 := Nat.le_trans (List.length_filter_le ..) (by omega)
      refine ⟨_, rfl, _, rfl, _, rfl, _, rfl, _, rfl, D3, _, rfl, .inl (SqL.of hLo), draw G10 h0 (by omega) (by rw [List.length_map]; omega) (Nat.lt_of_lt_of_le (show (((((met.filter (looseP cs)).map V.int).length : Nat) : Int)).natAbs < 2 ^ 11 by rw [List.length_map]; omega) (Nat.pow_le_pow_right (by decide) (by decide))) fun r Ha r0 r1 Ga ka => ?_⟩
      rw [List.length_map] at r1
      obtain ⟨y, hy, ym, yP⟩ := pick r0 r1
      obtain ⟨y1, y2⟩ := I4.inn y ym
      have Sa := S10.kept ka
      obtain ⟨p, c, vs, hp, hc, hat, e1, e2, fvs, lv⟩ := Sa.at I4.lcs y1 y2
      have lse : c.2 = 0 := by
        unfold looseP at yP
        rw [hc] at yP
        exact of_decide_eq_true yP
      refine ⟨D3, _, r, _, rfl, rfl, SqL.of (ka _ _ (nin1 nD3g) hLo), atI_ints r0 hy, _, _, rfl, rfl, C, _, y - 1, _, rfl, rfl, SqL.of Sa.hC, hat, p.1, _, 2, _, rfl, rfl, e1, rfl, ?_⟩
      have Sc := Sa.setC (v := v) hp hc
      have Gc := Ga.off (o := .lst [.int 0, .ref p.2, .int v]) (Ne.symm (not_six (Sa.new p (List.mem_of_getElem? hp)).2.2.1).1)
      have Ic := I4.cell ym hc (rC_link (v := v) lse hv1.1) (show okCl nn (c.1, v) from ⟨(I4.cs1 c (List.mem_of_getElem? hc)).1, (I4.cs1 c (List.mem_of_getElem? hc)).2.1, by have := hv1.1; show 0 ≤ v; omega, hv1.2⟩) hv1.1 hv1.2
      refine ⟨_, rfl, .inl ⟨rfl, _, SqL.of Sc.hM⟩, _, rfl, M, _, _, rfl, rfl, Sc.hM, by rw [List.length_map]; exact small1000' (by omega), ⟨_, _, _, _, _, rfl⟩, (Gc.off (Ne.symm (six_ne Sc.nd).2.2.2.2.1)).mono (by omega), _, _, _, ?_, Ic⟩
      have := Sc.setM (met' := met ++ [v])
      rw [List.map_append] at this
      exact this
    | false =>
    refine iteF ?_
    clear hB hLo
    refine and_test (b := decide (V.int way = V.int 3)) (D := D1) (xs := ((upR 3).filter (freeP told)).map V.int) (fun Q' z => ⟨_, rfl, rfl, z⟩) rfl hF fun H11 s11 => ?_
    have S11 := S10.kept (same_keep s11)
    have G11 := G10.same s11
    have hF := s11 _ _ hF
    clear S10 G10 s11
    cases hC : (decide (V.int way = V.int 3) && !(((upR 3).filter (freeP told)).map V.int).isEmpty) with
    | true =>
      refine iteT ?_
      have hlen := nonemp hC
      have lfil : ((upR 3).filter (freeP told)).length ≤ 9 := Nat.le_trans (List.length_filter_le ..) (by rw [upR_len]; decide)
      refine ⟨_, rfl, _, rfl, _, rfl, _, rfl, _, rfl, D1, _, rfl, .inl (SqL.of hF), draw G11 h0 (by omega) (by rw [List.length_map]; omega) (Nat.lt_of_lt_of_le (show ((((((upR 3).filter (freeP told)).map V.int).length : Nat) : Int)).natAbs < 2 ^ 11 by rw [List.length_map]; omega) (Nat.pow_le_pow_right (by decide) (by decide))) fun r Ha r0 r1 Ga ka => ?_⟩
      rw [List.length_map] at r1
      obtain ⟨y, hy, ym, yP⟩ := pick r0 r1
      obtain ⟨y1, y2⟩ := mem_upR ym
      have Sa := S11.kept ka
      have l3 := I4.l3
      have ht0 : told[y.toNat]? = some 0 := by
        have hy3 : y.toNat < told.length := by omega
        have e0 : told[y.toNat]? = some (told[y.toNat]'hy3) := List.getElem?_eq_getElem hy3
        unfold freeP at yP
        rw [e0] at yP ⊢
        rw [show told[y.toNat]'hy3 = 0 from of_decide_eq_true yP]
      refine ⟨D1, _, r, _, rfl, rfl, SqL.of (ka _ _ (nin1 nD1g) hF), atI_ints r0 hy, T, _, y, _, rfl, rfl, Sa.hT, ixN_int y1 (by rw [List.length_map]; omega), ?_⟩
      rw [show (told.map V.int).set y.toNat (.int v) = (told.set y.toNat v).map V.int by rw [List.map_set]]
      have Sc := Sa.setT (told' := told.set y.toNat v)
      have Gc := Ga.off (o := .lst ((told.set y.toNat v).map V.int)) (Ne.symm (six_ne Sa.nd).2.2.1)
      have Ic := I4.tell ht0 hv1.1 hv1.2
      generalize upd Ha T (.lst ((told.set y.toNat v).map V.int)) = Hc at Sc Gc ⊢
      refine ⟨_, rfl, .inl ⟨rfl, _, SqL.of Sc.hM⟩, _, rfl, M, _, _, rfl, rfl, Sc.hM, by rw [List.length_map]; exact small1000' (by omega), ⟨_, _, _, _, _, rfl⟩, (Gc.off (Ne.symm (six_ne Sc.nd).2.2.2.2.1)).mono (by omega), _, _, _, ?_, Ic⟩
      have := Sc.setM (met' := met ++ [v])
      rw [List.map_append] at this
      exact this
    | false =>
    refine iteF ?_
    clear hC hF
    refine ⟨(show 2 ≤ sizeLine by decide), fun L nL => ?_⟩
    have S12 := S11.kept (keep_new (o := .lst [.str "cell", .str "hollow"]) nL)
    have G12 := G11.new (o := .lst [.str "cell", .str "hollow"]) nL
    have hL : (upd H11 L (.lst [.str "cell", .str "hollow"])) L = some (.lst [.str "cell", .str "hollow"]) := upd_same
    have nLg := G11.some nL
    generalize upd H11 L (.lst [.str "cell", .str "hollow"]) = H12 at S12 G12 hL ⊢
    clear S11 G11 nL
    refine ⟨_, rfl, draw G12 h0 (by omega) (by decide) (by decide) fun r Ha r0 r1 Ga ka => ?_⟩
    have Sa := S12.kept ka
    have hLa := ka _ _ (nin1 nLg) hL
    obtain ⟨z, hz, hzz⟩ : ∃ z : Str, atI [V.str "cell", V.str "hollow"] r = some (.str z) ∧ (z = "cell" ∨ z = "hollow") := by
      rcases (show r = 0 ∨ r = 1 by omega) with rfl | rfl
      · exact ⟨_, rfl, .inl rfl⟩
      · exact ⟨_, rfl, .inr rfl⟩
    refine ⟨L, _, r, _, rfl, rfl, SqL.of hLa, hz, _, rfl, (show 2 ≤ sizeLine by decide), fun t nt => ?_⟩
    have Sb := Sa.kept (keep_new (o := .tup [.str z, .int v]) nt)
    have Gb := Ga.new (o := .tup [.str z, .int v]) nt
    have ht : (upd Ha t (.tup [.str z, .int v])) t = some (.tup [.str z, .int v]) := upd_same
    have ntg := Ga.some nt
    generalize upd Ha t (.tup [.str z, .int v]) = Hb at Sb Gb ht ⊢
    clear Sa Ga S12 G12 hLa hL
    refine ⟨_, rfl, 64, rfl, by decide, by decide, fun D4 nD4 => ?_⟩
    refine lc_fil (Pt := noneP regs) (ns := upR 64) (walk_range (lo := 0) (n := 64)) (upR_len 64) y_rg (fun _ _ => trivial) nD4 (by decide) ?_ (fun m H' Q q => ⟨_, rfl, q⟩) fun Hc sc hDc => ?_
    · intro m H' Q' s' hm q'
      obtain ⟨m0, m1⟩ := mem_upR hm
      have S' := Sb.kept (same_keep s')
      obtain ⟨rv, hrv, frv⟩ := S'.hR
      have lrv := Paired.length frv
      have l64 := I4.l64
      have hm3 : m.toNat < rv.length := by omega
      have hx : rv[m.toNat]? = some (rv[m.toNat]'hm3) := List.getElem?_eq_getElem hm3
      obtain ⟨d, hd, fd⟩ := paired_at frv hx
      have ef : noneP regs m = noD d := by
        unfold noneP
        rw [hd]
      rw [ef] at q'
      refine ⟨_, rfl, _, rfl, R, _, m, _, rfl, rfl, SqL.of hrv, atI_of m0 hx, rfl, _, rfl, ?_⟩
      generalize rv[m.toNat]'hm3 = xv at fd
      cases fd with
      | non => exact q'
      | int i => exact q'
      | tup a b => exact q'
    have Sc := Sb.kept (same_keep sc)
    have Gc := Gb.same sc
    have htc := sc _ _ ht
    have nD4g := Gb.some nD4
    have lnone := none_len I4.l64
    have few := I4.few
    refine ⟨_, rfl, draw Gc h0 (by omega) (by decide) (by decide) fun r2 Hd r20 r21 Gd kd => ?_⟩
    have Sd := Sc.kept kd
    obtain ⟨y, hy, ym, yP⟩ := pick (P := noneP regs) (ns := upR 64) r20 (by omega)
    obtain ⟨y1, y2⟩ := mem_upR ym
    obtain ⟨rv, hrv, frv⟩ := Sd.hR
    have lrv := Paired.length frv
    have l64 := I4.l64
    have hnone : regs[y.toNat]? = some .none := by
      have hy3 : y.toNat < regs.length := by omega
      have e0 : regs[y.toNat]? = some (regs[y.toNat]'hy3) := List.getElem?_eq_getElem hy3
      unfold noneP at yP
      rw [e0] at yP ⊢
      congr 1
      revert yP
      show noD (regs[y.toNat]'hy3) = true → _
      generalize regs[y.toNat]'hy3 = d
      cases d <;> simp [noD]
    refine ⟨D4, _, r2, _, rfl, rfl, SqL.of (kd _ _ (nin1 nD4g) hDc), atI_ints r20 hy, R, rv, y, _, rfl, rfl, hrv, ixN_int y1 (by omega), ?_⟩
    have Se := Sd.setR (k := y.toNat) hrv (.tup ntg (kd _ _ (nin1 ntg) htc))
    have Ge := Gd.off (o := .lst (rv.set y.toNat (.ref t))) (Ne.symm (six_ne Sd.nd).2.1)
    have Ie := I4.reg hnone hzz hv1.1 hv1.2
    generalize upd Hd R (.lst (rv.set y.toNat (.ref t))) = He at Se Ge ⊢
    refine ⟨_, rfl, .inl ⟨rfl, _, SqL.of Se.hM⟩, _, rfl, M, _, _, rfl, rfl, Se.hM, by rw [List.length_map]; exact small1000' (by omega), ⟨_, _, _, _, _, rfl⟩, (Ge.off (Ne.symm (six_ne Se.nd).2.2.2.2.1)).mono (by omega), _, _, _, ?_, Ie⟩
    have := Se.setM (met' := met ++ [v])
    rw [List.map_append] at this
    exact this
  · rintro σ H4 ⟨⟨x3, x8, x9, x10, x11, rfl⟩, G4, regs, told, cs, S4, I4⟩
    rw [List.length_map] at G4 S4 I4
    rw [List.take_length] at S4 I4
    have l3 := I4.l3
    obtain ⟨a, b, c, rfl⟩ : ∃ a b c : Int, told = [a, b, c] := by
      match told, l3 with
      | [a, b, c], _ => exact ⟨a, b, c, rfl⟩
    obtain ⟨pB, pF, pG⟩ := I4.pic hn9 pm
    have la := S4.la
    have lcs4 := I4.lcs
    refine ⟨_, rfl, _, rfl, T, _, 0, _, rfl, rfl, SqL.of S4.hT, rfl, _, rfl, T, _, 1, _, rfl, rfl, SqL.of S4.hT, rfl, _, rfl, T, _, 2, _, rfl, rfl, SqL.of S4.hT, rfl, ?_⟩
    refine ⟨_, rfl, C, rfl, ⟨_, SqL.of S4.hC⟩, fun D nD => ?_⟩
    have nDg := G4.some nD
    refine lc_it (walk_list (K := K) (a := C) (xs := adr.map fun p => V.ref p.1)) (fun j H' => Same H4 H' ∧ ∃ acc, H' D = some (.lst acc) ∧ DTs (hid [g, D] H') acc ((cs.take j).map cellD)) ⟨same_new nD, [], upd_same, .nil⟩ (fun j H' _ z => SqL.of (z.1 _ _ S4.hC)) ?_ ?_
    · rintro j x Ha Hb hj ⟨sa, acc, hD, da⟩ ⟨rfl, hx⟩
      rw [List.length_map] at hj
      have hp : adr[j]? = some adr[j] := List.getElem?_eq_getElem hj
      have hj2 : j < cs.length := by omega
      have hc : cs[j]? = some (cs[j]'hj2) := List.getElem?_eq_getElem hj2
      rw [List.getElem?_map, hp] at hx
      obtain rfl : V.ref adr[j].1 = x := Option.some.inj hx
      obtain ⟨e1, vs, e2, f⟩ := S4.cell j _ _ hp hc
      generalize adr[j] = p at e1 e2 hp
      generalize cs[j]'hj2 = cc at e1 f hc
      have old : Same (hid [g] H4) (hid [g, D] Hb) := fun q o e => by
        obtain ⟨n1, e3⟩ := hid_out e
        refine hid_at ?_ (sa _ _ e3)
        simp only [List.mem_cons, List.not_mem_nil, or_false, not_or]
        exact ⟨fun z => n1 (by simp [z]), ne_of_none e3 nD⟩
      have lacc := da.length
      rw [List.length_map, List.length_take] at lacc
      refine ⟨rfl, _, rfl, p.1, _, 1, _, rfl, rfl, SqL.of (sa _ _ e1), rfl, p.2, vs, rfl, .inl ⟨SqL.of (sa _ _ e2), fun l nl => ?_⟩⟩
      have s1 := same_new (o := .tup vs) nl
      have hl : (upd Hb l (.tup vs)) l = some (.tup vs) := upd_same
      have nlg := (G4.same sa).some nl
      have nlD := (ne_of_none hD nl).symm
      have hD1 := s1 _ _ hD
      generalize upd Hb l (.tup vs) = Hc at s1 hl hD1 ⊢
      refine ⟨_, rfl, p.1, _, 2, _, rfl, rfl, SqL.of (s1 _ _ (sa _ _ e1)), rfl, (show 3 ≤ sizeLine by decide), fun t nt => ?_⟩
      have s2 := same_new (o := .tup [.str "m", .ref l, .int cc.2]) nt
      have ht : (upd Hc t (.tup [.str "m", .ref l, .int cc.2])) t = some (.tup [.str "m", .ref l, .int cc.2]) := upd_same
      have ntg := ((G4.same sa).same s1).some nt
      have ntD := (ne_of_none hD1 nt).symm
      have hD2 := s2 _ _ hD1
      have hl2 := s2 _ _ hl
      generalize upd Hc t (.tup [.str "m", .ref l, .int cc.2]) = Hd at s2 ht hD2 hl2 ⊢
      have s3 := s1.trans s2
      have kf : Same (hid [g, D] Hd) (hid [g, D] (upd Hd D (.lst (acc ++ [.ref t])))) := Keep.hid (keep_upd (by simp))
      refine ⟨acc, hD2, small1000' (by omega), ?_, acc ++ [.ref t], upd_same, ?_⟩
      · intro q o e
        rw [upd_ne (ne_of_none e nD)]
        exact s3 _ _ (sa _ _ e)
      · have et : (cs.take (j + 1)).map cellD = (cs.take j).map cellD ++ [cellD cc] := by
          rw [List.take_add_one, hc, List.map_append]
          rfl
        rw [et]
        refine DTs.snoc ((da.same (hidS s3) _).same kf _) (DT.same kf _ ?_)
        have o2 : Same (hid [g] H4) (hid [g, D] Hd) := old.trans (hidS s3)
        refine .tup (hid_at ?_ ht) (.cons (.str _) (.cons (.tup (hid_at ?_ hl2) (f.dts.same o2 _)) (.cons (.int _) .nil)))
        · simp only [List.mem_cons, List.not_mem_nil, or_false, not_or]
          exact ⟨ntg, ntD⟩
        · simp only [List.mem_cons, List.not_mem_nil, or_false, not_or]
          exact ⟨nlg, nlD⟩
    · rintro Hb ⟨sb, acc, hD, da⟩
      rw [List.length_map, la, List.take_length] at da
      refine ⟨(show 5 ≤ sizeLine by decide), fun U nU => ?_⟩
      obtain ⟨rv, hrv, frv⟩ := S4.hR
      have sU := same_new (o := .tup [.ref R, .int a, .int b, .int c, .ref D]) nU
      have G5 := (G4.same sb).same sU
      have nUg := (G4.same sb).some nU
      have hU : (upd Hb U (.tup [.ref R, .int a, .int b, .int c, .ref D])) U = some (.tup [.ref R, .int a, .int b, .int c, .ref D]) := upd_same
      refine q _ (picD regs a b c cs) _ ?_ pB pF pG (G5.mono (by omega)) (S4.keep.trans (same_keep (sb.trans sU)))
      refine .tup (hid_at (nin1 nUg) hU) (.cons (.lst (hid_at (nin1 (six_ne S4.nd).2.1) (sU _ _ (sb _ _ hrv))) (frv.dts.same (hidS (sb.trans sU)) _)) (.cons (.int _) (.cons (.int _) (.cons (.int _) (.cons (.lst (hid_at (nin1 nDg) (sU _ _ hD)) ?_) .nil)))))
      exact (da.same (hid_mono (by simp)) _).same (hidS sU) _
theorem c_l_drawn (T : TLw K mg) : Says P w K mg base 4 "_law_drawn" ["_law_generator_here"] sp_l_drawn := says T.d_l_drawn sc_l_drawn (fun vs H Q E h => by obtain ⟨_, _, _, _, rfl, _⟩ := h; rfl) (b_l_drawn T)
end
end Cb
set_option Elab.async false
set_option linter.all false
set_option maxRecDepth 100000
set_option maxHeartbeats 4000000
namespace Cb
open PySem PySem.Spec PyProof.Rows L2
abbrev s_l_wrong : Stmt := topS 31
theorem sc_l_wrong : FnScope ["_law_generator_here", "_law_many", "_law_found"] ["_law_generator_here", "_law_many"] (defScope s_l_wrong) := ⟨rfl, rfl, rfl, by decide +kernel, rfl, by decide +kernel, by decide +kernel⟩
structure TLx (K : PySem.W.Frag) (mg : Str → Option Value) : Prop where
  tg : TGen K mg
  d_l_wrong : Has K mg "_law_wrong" s_l_wrong ["_law_generator_here", "_law_many"]
def wr1 (m : Int) : List PyData := [.none, .bool true, .int 7, .int (2 ^ 60 * 8), .str "x", .tuple [.str "bare", .str "nil"], .tuple [.str "bare", .int 5], .tuple [.str "bare", .str "nil", .int 0], .tuple [.str "cells", .int 1], .tuple [.str "cell", .int 0], .tuple [.str "cell", .int (-1)], .tuple [.str "cell", .bool true], .tuple [.str "cell", .int (m + 1)]]
def wr2 (m : Int) : List PyData := [.tuple [.str "cell", .none], .tuple [.str "hollow", .int 0], .tuple [.str "hollow", .int (m + 1)], .tuple [.str "hollow", .int 1], .tuple [.str "cell", .int 1], .list [.str "cell", .int 1], .tuple [.str "cell"], .tuple [], .dict [], .int (-(2 ^ 60) * 8 - 1)]
theorem okc_pair {a : Str} {x : PyData} (h1 : (a.cps.toList.all fun c => decide (c < 16 ^ 8)) = true) (h2 : a.cps.size ≤ 70) (hx : Gd 70 0 x) (hb : a = "bare" → x = .str "nil" ∨ ∃ i, x = .int i) : okc (.tuple [.str a, x]) := by
  refine ⟨fun b y e => ?_, gd_tup (n := 70) (k := 0) 2 ?_ (Nat.le_refl 2) (by decide) (by decide)⟩
  · simp only [PyData.tuple.injEq, List.cons.injEq, and_true] at e
    obtain ⟨rfl, rfl⟩ := e
    exact ⟨_, rfl, hb⟩
  · intro y hy
    simp only [List.mem_cons, List.not_mem_nil, or_false] at hy
    rcases hy with rfl | rfl
    · exact gd_str h1 h2
    · exact hx
theorem okc_pair' {a : Str} {x : PyData} (h1 : (a.cps.toList.all fun c => decide (c < 16 ^ 8)) = true) (h2 : a.cps.size ≤ 70) (hx : Gd 70 0 x) (hb : ¬ a = "bare") : okc (.tuple [.str a, x]) := okc_pair h1 h2 hx fun e => absurd e hb
theorem gd_zero {n k : Nat} : Gd n k (.int 0) := ⟨by decide +kernel, by decide +kernel, by simp [PyData.depth], by simp [PyData.weight]⟩
theorem okc_leaf {d : PyData} (h : ∀ a x, d ≠ .tuple [a, x]) (g : Gd 200 3 d) : okc d := ⟨fun a x e => absurd e (h a x), g⟩
theorem fa {α : Type} {p : α → Prop} {a : α} {l : List α} (h : p a) (r : ∀ x ∈ l, p x) : ∀ x ∈ a :: l, p x := List.forall_mem_cons.mpr ⟨h, r⟩
theorem fn {α : Type} {p : α → Prop} : ∀ x ∈ ([] : List α), p x := fun x h => by cases h
theorem wr_ok {m : Int} (h0 : 0 ≤ m) (h9 : m ≤ 9) : ∀ d ∈ wr1 m ++ wr2 m, okc d := by
  unfold wr1 wr2
  refine fa (okc_leaf (fun _ _ => PyData.noConfusion) gd_none) ?_
  refine fa (okc_leaf (fun _ _ => PyData.noConfusion) (gd_bool _)) ?_
  refine fa (okc_leaf (fun _ _ => PyData.noConfusion) (gd_int (by decide) (by decide))) ?_
  refine fa (okc_leaf (fun _ _ => PyData.noConfusion) (gd_int (by decide) (by decide))) ?_
  refine fa (okc_leaf (fun _ _ => PyData.noConfusion) (gd_str (by decide) (by decide))) ?_
  refine fa (okc_pair (by decide) (by decide) (gd_str (by decide) (by decide)) fun _ => .inl rfl) ?_
  refine fa (okc_pair (by decide) (by decide) (gd_int (by decide) (by decide)) fun _ => .inr ⟨_, rfl⟩) ?_
  refine fa (okc_leaf (fun _ _ e => by simp at e) (gd_tup (n := 60) (k := 0) 3 (fa (gd_str (by decide) (by decide)) (fa (gd_str (by decide) (by decide)) (fa gd_zero fn))) (Nat.le_refl 3) (by decide) (by decide))) ?_
  refine fa (okc_pair' (by decide) (by decide) (gd_int (by decide) (by decide)) (by decide)) ?_
  refine fa (okc_pair' (by decide) (by decide) (gd_int (by decide) (by decide)) (by decide)) ?_
  refine fa (okc_pair' (by decide) (by decide) (gd_int (by decide) (by decide)) (by decide)) ?_
  refine fa (okc_pair' (by decide) (by decide) (gd_bool _) (by decide)) ?_
  refine fa (okc_pair' (by decide) (by decide) (gd_int (by omega) (by decide)) (by decide)) ?_
  refine fa (okc_pair' (by decide) (by decide) gd_none (by decide)) ?_
  refine fa (okc_pair' (by decide) (by decide) (gd_int (by decide) (by decide)) (by decide)) ?_
  refine fa (okc_pair' (by decide) (by decide) (gd_int (by omega) (by decide)) (by decide)) ?_
  refine fa (okc_pair' (by decide) (by decide) (gd_int (by decide) (by decide)) (by decide)) ?_
  refine fa (okc_pair' (by decide) (by decide) (gd_int (by decide) (by decide)) (by decide)) ?_
  refine fa (okc_leaf (fun _ _ => PyData.noConfusion) (gd_list (n := 70) (k := 0) 2 (fa (gd_str (by decide) (by decide)) (fa (gd_int (by decide) (by decide)) fn)) (Nat.le_refl 2) (by decide) (by decide))) ?_
  refine fa (okc_leaf (fun _ _ e => by simp at e) (gd_tup (n := 70) (k := 0) 1 (fa (gd_str (by decide) (by decide)) fn) (Nat.le_refl 1) (by decide) (by decide))) ?_
  refine fa (okc_leaf (fun _ _ e => by simp at e) (gd_tup (n := 70) (k := 0) 1 fn (Nat.zero_le 1) (by decide) (by decide))) ?_
  refine fa (okc_leaf (fun _ _ => PyData.noConfusion) (gd_dict (by decide))) ?_
  exact fa (okc_leaf (fun _ _ => PyData.noConfusion) (gd_int (by decide) (by decide))) fn
section
variable {P : Program} {w : World} {K : PySem.W.Frag} {mg : Str → Option Value} {base : Heap}
def sp_l_wrong : Sp := fun vs H Q _ => ∃ (g : Addr) (s t0 m : Int) (n : Nat), vs = [.ref g, .int m] ∧ 0 ≤ m ∧ m ≤ 9 ∧ Gn g s t0 n H ∧ 0 ≤ t0 ∧ t0 + (n + 8 : Nat) < 2 ^ 62 ∧
  ∀ (v : V) (d : PyData) (H' : Hp), DT (hid [g] H') v d → okc d → Gn g s t0 (n + 8) H' → Keep [g] H H' → Q v H'
theorem b_l_wrong (T : TLx K mg) : Body P w K mg base 3 "_law_wrong" s_l_wrong ["_law_generator_here", "_law_many", "_law_found"] sp_l_wrong := by
  intro f cdv A outer st H vs Q E hr h
  refine ⟨_, (pss_cons (ps_set (i := 2) sc_l_wrong.nd rfl (.inl rfl) (pe_lst (pa_cons pe_non (pa_cons pe_bl (pa_cons pe_int (pa_cons (pe_op op_mul (pe_op op_powA pe_int pe_int) pe_int) (pa_cons pe_str (pa_cons (pe_tup (pa_cons pe_str (pa_cons pe_str pa_nil))) (pa_cons (pe_tup (pa_cons pe_str (pa_cons pe_int pa_nil))) (pa_cons (pe_tup (pa_cons pe_str (pa_cons pe_str (pa_cons pe_int pa_nil)))) (pa_cons (pe_tup (pa_cons pe_str (pa_cons pe_int pa_nil))) (pa_cons (pe_tup (pa_cons pe_str (pa_cons pe_int pa_nil))) (pa_cons (pe_tup (pa_cons pe_str (pa_cons (pe_un un_neg pe_int) pa_nil))) (pa_cons (pe_tup (pa_cons pe_str (pa_cons pe_bl pa_nil))) (pa_cons (pe_tup (pa_cons pe_str (pa_cons (pe_op op_add (pv 1) pe_int) pa_nil))) pa_nil)))))))))))))))
    (pss_cons (ps_set (i := 2) sc_l_wrong.nd rfl (.inl rfl) (pe_op op_cat (pv 2) (pe_lst (pa_cons (pe_tup (pa_cons pe_str (pa_cons pe_non pa_nil))) (pa_cons (pe_tup (pa_cons pe_str (pa_cons pe_int pa_nil))) (pa_cons (pe_tup (pa_cons pe_str (pa_cons (pe_op op_add (pv 1) pe_int) pa_nil))) (pa_cons (pe_tup (pa_cons pe_str (pa_cons pe_int pa_nil))) (pa_cons (pe_tup (pa_cons pe_str (pa_cons pe_int pa_nil))) (pa_cons (pe_lst (pa_cons pe_str (pa_cons pe_int pa_nil))) (pa_cons (pe_tup (pa_cons pe_str pa_nil)) (pa_cons (pe_tup pa_nil) (pa_cons pe_dnewK (pa_cons (pe_op op_sub (pe_op op_mul (pe_un un_neg (pe_op op_powA pe_int pe_int)) pe_int) pe_int) pa_nil)))))))))))))
    (pss_one (ps_ret (pe_ix ix_list (pv 2) (pe_s (c_l_random T.tg) hr (pa_cons (pv 0) (pa_cons (pe_callB call_len_seq (by rfl) T.tg.b_len (by decide +kernel) (pa_cons (pv 2) pa_nil)) pa_nil))) (fun _ _ => rfl)))))), ?_⟩
  obtain ⟨g, s0, t0, m, n0, rfl, m0, m9, G, h0, h1, q⟩ := h
  have hg0 : ∃ o, H g = some o := by
    obtain ⟨a, t, e, _⟩ := G
    exact ⟨_, e⟩
  have S0 : Same H H := Same.refl _
  have acc0 : DTs (hid [g] H) [] [] := .nil
  have acc0' := DTs.snoc acc0 .non
  replace acc0 := acc0'
  clear acc0'
  have acc0' := DTs.snoc acc0 (.bl true)
  replace acc0 := acc0'
  clear acc0'
  have acc0' := DTs.snoc acc0 (.int 7)
  replace acc0 := acc0'
  clear acc0'
  have acc0' := DTs.snoc acc0 (.int (2 ^ 60 * 8))
  replace acc0 := acc0'
  clear acc0'
  have acc0' := DTs.snoc acc0 (.str "x")
  replace acc0 := acc0'
  clear acc0'
  refine ⟨_, _, rfl, rfl, ⟨by decide, by decide +kernel⟩, _, _, rfl, rfl, .inl (by decide +kernel), (show 2 ≤ sizeLine by decide), fun z1 n1 => ?_⟩
  obtain ⟨s1, d1⟩ := dt_tup hg0 n1 (.cons (.str "bare") (.cons (.str "nil") .nil))
  have hg1 := ex_same hg0 s1
  have S1 := S0.trans s1
  have acc1 := DTs.snoc (acc0.same (hidS s1) _) d1
  refine ⟨(show 2 ≤ sizeLine by decide), fun z2 n2 => ?_⟩
  obtain ⟨s2, d2⟩ := dt_tup hg1 n2 (.cons (.str "bare") (.cons (.int 5) .nil))
  have hg2 := ex_same hg1 s2
  have S2 := S1.trans s2
  have acc2 := DTs.snoc (acc1.same (hidS s2) _) d2
  refine ⟨(show 3 ≤ sizeLine by decide), fun z3 n3 => ?_⟩
  obtain ⟨s3, d3⟩ := dt_tup hg2 n3 (.cons (.str "bare") (.cons (.str "nil") (.cons (.int 0) .nil)))
  have hg3 := ex_same hg2 s3
  have S3 := S2.trans s3
  have acc3 := DTs.snoc (acc2.same (hidS s3) _) d3
  refine ⟨(show 2 ≤ sizeLine by decide), fun z4 n4 => ?_⟩
  obtain ⟨s4, d4⟩ := dt_tup hg3 n4 (.cons (.str "cells") (.cons (.int 1) .nil))
  have hg4 := ex_same hg3 s4
  have S4 := S3.trans s4
  have acc4 := DTs.snoc (acc3.same (hidS s4) _) d4
  refine ⟨(show 2 ≤ sizeLine by decide), fun z5 n5 => ?_⟩
  obtain ⟨s5, d5⟩ := dt_tup hg4 n5 (.cons (.str "cell") (.cons (.int 0) .nil))
  have hg5 := ex_same hg4 s5
  have S5 := S4.trans s5
  have acc5 := DTs.snoc (acc4.same (hidS s5) _) d5
  refine ⟨_, rfl, (show 2 ≤ sizeLine by decide), fun z6 n6 => ?_⟩
  obtain ⟨s6, d6⟩ := dt_tup hg5 n6 (.cons (.str "cell") (.cons (.int (-1)) .nil))
  have hg6 := ex_same hg5 s6
  have S6 := S5.trans s6
  have acc6 := DTs.snoc (acc5.same (hidS s6) _) d6
  refine ⟨(show 2 ≤ sizeLine by decide), fun z7 n7 => ?_⟩
  obtain ⟨s7, d7⟩ := dt_tup hg6 n7 (.cons (.str "cell") (.cons (.bl true) .nil))
  have hg7 := ex_same hg6 s7
  have S7 := S6.trans s7
  have acc7 := DTs.snoc (acc6.same (hidS s7) _) d7
  refine ⟨_, rfl, _, _, rfl, rfl, (show 2 ≤ sizeLine by decide), fun z8 n8 => ?_⟩
  obtain ⟨s8, d8⟩ := dt_tup hg7 n8 (.cons (.str "cell") (.cons (.int (m + 1)) .nil))
  have hg8 := ex_same hg7 s8
  have S8 := S7.trans s8
  have acc8 := DTs.snoc (acc7.same (hidS s8) _) d8
  refine ⟨(show 13 ≤ sizeLine by decide), fun z9 n9 => ?_⟩
  obtain ⟨s9, d9⟩ := dt_lst hg8 n9 acc8
  have hg9 := ex_same hg8 s9
  have S9 := S8.trans s9
  obtain ⟨xs1, ex1, dx1⟩ := DT.lst' d9
  have L1 := S9
  refine ⟨_, rfl, (show 2 ≤ sizeLine by decide), fun z10 n10 => ?_⟩
  obtain ⟨s10, d10⟩ := dt_tup hg9 n10 (.cons (.str "cell") (.cons .non .nil))
  have hg10 := ex_same hg9 s10
  have S10 := S9.trans s10
  have accB10 := DTs.snoc DTs.nil d10
  have sB10 := s10
  refine ⟨(show 2 ≤ sizeLine by decide), fun z11 n11 => ?_⟩
  obtain ⟨s11, d11⟩ := dt_tup hg10 n11 (.cons (.str "hollow") (.cons (.int 0) .nil))
  have hg11 := ex_same hg10 s11
  have S11 := S10.trans s11
  have accB11 := DTs.snoc (accB10.same (hidS s11) _) d11
  have sB11 := sB10.trans s11
  refine ⟨_, rfl, _, _, rfl, rfl, (show 2 ≤ sizeLine by decide), fun z12 n12 => ?_⟩
  obtain ⟨s12, d12⟩ := dt_tup hg11 n12 (.cons (.str "hollow") (.cons (.int (m + 1)) .nil))
  have hg12 := ex_same hg11 s12
  have S12 := S11.trans s12
  have accB12 := DTs.snoc (accB11.same (hidS s12) _) d12
  have sB12 := sB11.trans s12
  refine ⟨(show 2 ≤ sizeLine by decide), fun z13 n13 => ?_⟩
  obtain ⟨s13, d13⟩ := dt_tup hg12 n13 (.cons (.str "hollow") (.cons (.int 1) .nil))
  have hg13 := ex_same hg12 s13
  have S13 := S12.trans s13
  have accB13 := DTs.snoc (accB12.same (hidS s13) _) d13
  have sB13 := sB12.trans s13
  refine ⟨(show 2 ≤ sizeLine by decide), fun z14 n14 => ?_⟩
  obtain ⟨s14, d14⟩ := dt_tup hg13 n14 (.cons (.str "cell") (.cons (.int 1) .nil))
  have hg14 := ex_same hg13 s14
  have S14 := S13.trans s14
  have accB14 := DTs.snoc (accB13.same (hidS s14) _) d14
  have sB14 := sB13.trans s14
  refine ⟨(show 2 ≤ sizeLine by decide), fun z15 n15 => ?_⟩
  obtain ⟨s15, d15⟩ := dt_lst hg14 n15 (.cons (.str "cell") (.cons (.int 1) .nil))
  have hg15 := ex_same hg14 s15
  have S15 := S14.trans s15
  have accB15 := DTs.snoc (accB14.same (hidS s15) _) d15
  have sB15 := sB14.trans s15
  refine ⟨(show 1 ≤ sizeLine by decide), fun z16 n16 => ?_⟩
  obtain ⟨s16, d16⟩ := dt_tup hg15 n16 (.cons (.str "cell") .nil)
  have hg16 := ex_same hg15 s16
  have S16 := S15.trans s16
  have accB16 := DTs.snoc (accB15.same (hidS s16) _) d16
  have sB16 := sB15.trans s16
  refine ⟨(show 0 ≤ sizeLine by decide), fun z17 n17 => ?_⟩
  obtain ⟨s17, d17⟩ := dt_tup hg16 n17 (.nil)
  have hg17 := ex_same hg16 s17
  have S17 := S16.trans s17
  have accB17 := DTs.snoc (accB16.same (hidS s17) _) d17
  have sB17 := sB16.trans s17
  intro z18 n18
  obtain ⟨s18, d18⟩ : Same _ (upd _ z18 (.dK [])) ∧ DT (hid [g] (upd _ z18 (.dK []))) (.ref z18) (.dict []) := ⟨same_new n18, .dct (hid_at (nin1 (new_g hg17 n18)) upd_same)⟩
  have hg18 := ex_same hg17 s18
  have S18 := S17.trans s18
  have accB18 := DTs.snoc (accB17.same (hidS s18) _) d18
  have sB18 := sB17.trans s18
  have accB18' := DTs.snoc accB18 (.int (-(2 ^ 60) * 8 - 1))
  replace accB18 := accB18'
  clear accB18'
  refine ⟨_, _, rfl, rfl, ⟨by decide, by decide +kernel⟩, _, rfl, _, _, rfl, rfl, .inl (by decide +kernel), _, _, rfl, rfl, (show 10 ≤ sizeLine by decide), fun z19 n19 => ?_⟩
  obtain ⟨s19, d19⟩ := dt_lst hg18 n19 accB18
  have hg19 := ex_same hg18 s19
  have S19 := S18.trans s19
  obtain ⟨xs2, ex2, dx2⟩ := DT.lst' d19
  have sBB := sB18.trans s19
  have l1 := dx1.length
  have l2 := dx2.length
  refine ⟨z9, z19, xs1, xs2, rfl, rfl, sBB _ _ (hid_out ex1).2, (hid_out ex2).2, by rw [l1, l2]; exact (show 13 + 10 ≤ sizeLine by decide), fun L nL => ?_⟩
  have dA := DTs.app (dx1.same (hidS sBB) _) dx2
  obtain ⟨sL, dL⟩ := dt_lst hg19 nL dA
  obtain ⟨xs, exs, dxs⟩ := DT.lst' dL
  have lxs := dxs.length
  have SL := S19.trans sL
  have GL := G.same SL
  have nLg := (hid_out exs).1
  refine ⟨_, rfl, _, rfl, _, rfl, L, xs, rfl, .inl (SqL.of (hid_out exs).2), ?_⟩
  have e23 : ((xs.length : Nat) : Int) = 23 := by rw [lxs]; rfl
  rw [e23]
  refine draw GL h0 (by omega) (by decide) (by decide) fun r H' r0 r1 G' k' => ?_
  have hx : xs[r.toNat]? = some (xs[r.toNat]'(by omega)) := List.getElem?_eq_getElem _
  have dl : (wr1 m ++ wr2 m).length = 23 := rfl
  have hd : (wr1 m ++ wr2 m)[r.toNat]? = some ((wr1 m ++ wr2 m)[r.toNat]'(by omega)) := List.getElem?_eq_getElem _
  refine ⟨L, xs, r, _, rfl, rfl, SqL.of (k' _ _ nLg (hid_out exs).2), atI_of r0 hx, ?_⟩
  refine q _ _ H' ((dxs.get hx hd).same k'.hid _) (wr_ok m0 m9 _ (List.mem_of_getElem? hd)) G' ((same_keep SL).trans k')
theorem c_l_wrong (T : TLx K mg) : Says P w K mg base 4 "_law_wrong" ["_law_generator_here", "_law_many"] sp_l_wrong := says T.d_l_wrong sc_l_wrong (fun vs H Q E h => by obtain ⟨_, _, _, _, _, rfl, _⟩ := h; rfl) (b_l_wrong T)
end
end Cb
set_option Elab.async false
set_option linter.all false
set_option maxRecDepth 100000
set_option maxHeartbeats 4000000
namespace Cb
open PySem PySem.Spec PyProof.Rows L2
/-! ### new things of data, the generator hidden -/
def rEqNil : R2 := fun x y H Q => ∃ (a b : Addr) (xs : List V), x = .ref a ∧ y = .ref b ∧ H a = some (.lst xs) ∧ H b = some (.lst []) ∧ Q (.bl xs.isEmpty) H
section
variable {X : Cx}
theorem op_eqNil (hu : X.A.units + 64 < cLine) : OpR X (compareOp .Eq) rEqNil := by
  intro pins s σ H x y v u Q I rx ry h
  obtain ⟨a, b, xs, rfl, rfl, ha, hb, q⟩ := h
  cases rx
  cases ry
  obtain ⟨z1, its, n, rv, hl, e⟩ := I.lstM ha
  obtain ⟨z2, its2, n2, rv2, hl2, e2⟩ := I.lstM hb
  obtain rfl : its2 = [] := by
    cases rv2
    rfl
  have r1 : s.heap.IsList a its.toArray := ⟨_, e, rfl, _, rfl⟩
  have r2 : s.heap.IsList b ([] : List Value).toArray := ⟨_, e2, rfl, _, rfl⟩
  cases rv with
  | nil =>
    have := SeqAt.RcAt.lists (A := X.A) (e := fun _ => true) r1 r2 rfl (by omega) (fun j h1 h2 => absurd h1 (by simp))
    exact this X.prog X.w _ _ ⟨.bl true, H, I, rfl, q⟩
  | cons h t =>
    have := SeqAt.RcAt.lists_lengths (A := X.A) r1 r2 (by simp) (by omega)
    exact this X.prog X.w _ _ ⟨.bl false, H, I, rfl, q⟩
end
def cutD (ds : List PyData) (lo hi : Option Int) : List PyData := (ds.drop (HT.sIx ds.length 0 lo)).take (HT.sIx ds.length ds.length hi - HT.sIx ds.length 0 lo)
theorem cutD_d1 (ds : List PyData) : cutD ds (some 1) none = ds.drop 1 := by
  unfold cutD
  rw [show HT.sIx ds.length 0 (some 1) = min 1 ds.length from HT.sIx_nat _ _ 1, show HT.sIx ds.length ds.length none = ds.length from HT.sIx_none _ _]
  cases ds with
  | nil => rfl
  | cons x r => simp
theorem cutD_to {ds : List PyData} {k : Nat} (h : k ≤ ds.length) : cutD ds none (some (k : Int)) = ds.take k := by
  unfold cutD
  rw [show HT.sIx ds.length 0 none = 0 from HT.sIx_none _ _, show HT.sIx ds.length ds.length (some (k : Int)) = min k ds.length from HT.sIx_nat _ _ k, Nat.min_eq_left h]
  rfl
theorem cutD_from {ds : List PyData} {k : Nat} (h : k ≤ ds.length) : cutD ds (some (k : Int)) none = ds.drop k := by
  unfold cutD
  rw [show HT.sIx ds.length 0 (some (k : Int)) = min k ds.length from HT.sIx_nat _ _ k, show HT.sIx ds.length ds.length none = ds.length from HT.sIx_none _ _, Nat.min_eq_left h]
  exact List.take_of_length_le (by rw [List.length_drop]; exact Nat.le_refl _)
theorem DTs.cut {H : Hp} {xs : List V} {ds : List PyData} (d : DTs H xs ds) (lo hi : Option Int) : DTs H (cutV xs lo hi) (cutD ds lo hi) := by
  unfold cutV cutD
  rw [d.length]
  exact (d.dropd _).taked _
theorem DT.tup' {H : Hp} {x : V} {ds : List PyData} (h : DT H x (.tuple ds)) : ∃ a xs, x = .ref a ∧ H a = some (.tup xs) ∧ DTs H xs ds := by
  cases h with
  | tup e r => exact ⟨_, _, rfl, e, r⟩
theorem DT.refl' {H : Hp} {x : V} {ds : List PyData} (h : DT H x (.list ds)) : ∃ a xs, x = .ref a ∧ H a = some (.lst xs) ∧ DTs H xs ds := by
  cases h with
  | lst e r => exact ⟨_, _, rfl, e, r⟩
section
variable {K : PySem.W.Frag} {g : Addr} {H : Hp} {x y : V} {ds es : List PyData} {Q : VK}
theorem newT {xs : List V} (hg : ∃ o, H g = some o) (d : DTs (hid [g] H) xs ds) (l : ds.length ≤ 5000) (q : ∀ v H', Same H H' → DT (hid [g] H') v (.tuple ds) → Q v H') : xs.length ≤ sizeLine ∧ ∀ p, H p = none → Q (.ref p) (upd H p (.tup xs)) := by
  refine ⟨by rw [d.length]; exact Nat.le_of_lt (small1000' l), fun p np => ?_⟩
  obtain ⟨s, e⟩ := dt_tup hg np d
  exact q _ _ s e
theorem newL {xs : List V} (hg : ∃ o, H g = some o) (d : DTs (hid [g] H) xs ds) (l : ds.length ≤ 5000) (q : ∀ v H', Same H H' → DT (hid [g] H') v (.list ds) → Q v H') : xs.length ≤ sizeLine ∧ ∀ p, H p = none → Q (.ref p) (upd H p (.lst xs)) := by
  refine ⟨by rw [d.length]; exact Nat.le_of_lt (small1000' l), fun p np => ?_⟩
  obtain ⟨s, e⟩ := dt_lst hg np d
  exact q _ _ s e
theorem catT (hg : ∃ o, H g = some o) (dx : DT (hid [g] H) x (.tuple ds)) (dy : DT (hid [g] H) y (.tuple es)) (l : ds.length + es.length ≤ 5000) (q : ∀ v H', Same H H' → DT (hid [g] H') v (.tuple (ds ++ es)) → Q v H') : rCatA K x y H Q := by
  have dx0 := dx
  have dy0 := dy
  obtain ⟨a, xs, rfl, ea, da⟩ := dx.tup'
  obtain ⟨b, ys, rfl, eb, db⟩ := dy.tup'
  have l1 := da.length
  have l2 := db.length
  refine ⟨a, b, xs, ys, rfl, rfl, SqT.of (hid_out ea).2, SqT.of (hid_out eb).2, Nat.le_of_lt (small1000' (by omega)), fun e => ?_, fun _ e => ?_, fun _ _ p np => ?_⟩
  · subst e
    obtain rfl : ds = [] := List.eq_nil_of_length_eq_zero l1.symm
    exact q _ _ (Same.refl _) dy0
  · subst e
    obtain rfl : es = [] := List.eq_nil_of_length_eq_zero l2.symm
    rw [List.append_nil] at q
    exact q _ _ (Same.refl _) dx0
  · obtain ⟨s, e⟩ := dt_tup hg np (DTs.app da db)
    exact q _ _ s e
theorem catL (hg : ∃ o, H g = some o) (dx : DT (hid [g] H) x (.list ds)) (dy : DT (hid [g] H) y (.list es)) (l : ds.length + es.length ≤ 5000) (q : ∀ v H', Same H H' → DT (hid [g] H') v (.list (ds ++ es)) → Q v H') : rCat x y H Q := by
  obtain ⟨a, xs, rfl, ea, da⟩ := dx.refl'
  obtain ⟨b, ys, rfl, eb, db⟩ := dy.refl'
  have l1 := da.length
  have l2 := db.length
  refine ⟨a, b, xs, ys, rfl, rfl, (hid_out ea).2, (hid_out eb).2, Nat.le_of_lt (small1000' (by omega)), fun p np => ?_⟩
  obtain ⟨s, e⟩ := dt_lst hg np (DTs.app da db)
  exact q _ _ s e
theorem slT {lo hi : Option Int} (hg : ∃ o, H g = some o) (dx : DT (hid [g] H) x (.tuple ds)) (q : ∀ v H', Same H H' → DT (hid [g] H') v (.tuple (cutD ds lo hi)) → Q v H') : rSlA K x lo hi H Q := by
  have dx0 := dx
  obtain ⟨a, xs, rfl, ea, da⟩ := dx.tup'
  refine ⟨a, xs, rfl, SqT.of (hid_out ea).2, fun e => ?_, fun _ p np => ?_⟩
  · have : cutD ds lo hi = ds := by
      unfold cutD
      rw [da.length] at e
      rw [e.1, e.2]
      simp
    rw [this] at q
    exact q _ _ (Same.refl _) dx0
  · obtain ⟨s, e⟩ := dt_tup hg np (da.cut lo hi)
    exact q _ _ s e
theorem slL {lo hi : Option Int} (hg : ∃ o, H g = some o) (dx : DT (hid [g] H) x (.list ds)) (q : ∀ v H', Same H H' → DT (hid [g] H') v (.list (cutD ds lo hi)) → Q v H') : rSlL K x lo hi H Q := by
  obtain ⟨a, xs, rfl, ea, da⟩ := dx.refl'
  refine ⟨a, xs, rfl, SqL.of (hid_out ea).2, fun p np => ?_⟩
  obtain ⟨s, e⟩ := dt_lst hg np (da.cut lo hi)
  exact q _ _ s e
def rLofK (K : PySem.W.Frag) : List V → Hp → VK → Prop := fun xs H Q => ∃ p ys, xs = [.ref p] ∧ (SqL K H p ys ∨ SqT K H p ys) ∧ ∀ l, H l = none → Q (.ref l) (upd H l (.lst ys))
theorem call_lofK {X : Cx} : CallR X (.type "list") (rLofK X.K) := call_list_of
theorem lofT (hg : ∃ o, H g = some o) (dx : DT (hid [g] H) x (.tuple ds)) (q : ∀ v H', Same H H' → DT (hid [g] H') v (.list ds) → Q v H') : rLofK K [x] H Q := by
  obtain ⟨a, xs, rfl, ea, da⟩ := dx.tup'
  refine ⟨a, xs, rfl, .inr (SqT.of (hid_out ea).2), fun p np => ?_⟩
  obtain ⟨s, e⟩ := dt_lst hg np da
  exact q _ _ s e
theorem tofL (hg : ∃ o, H g = some o) (dx : DT (hid [g] H) x (.list ds)) (q : ∀ v H', Same H H' → DT (hid [g] H') v (.tuple ds) → Q v H') : rTof K [x] H Q := by
  obtain ⟨a, xs, rfl, ea, da⟩ := dx.refl'
  refine ⟨a, xs, rfl, .inl ⟨SqL.of (hid_out ea).2, fun p np => ?_⟩⟩
  obtain ⟨s, e⟩ := dt_tup hg np da
  exact q _ _ s e
theorem ixD {i : Int} {d : PyData} (dx : DT (hid [g] H) x (.list ds)) (h0 : 0 ≤ i) (hd : ds[i.toNat]? = some d) (q : ∀ v, DT (hid [g] H) v d → Q v H) : rIxL K x (.int i) H Q := by
  obtain ⟨a, xs, rfl, ea, da⟩ := dx.refl'
  have l := da.length
  have li := (List.getElem?_eq_some_iff.mp hd).1
  have hx : xs[i.toNat]? = some (xs[i.toNat]'(by omega)) := List.getElem?_eq_getElem _
  exact ⟨a, xs, i, _, rfl, rfl, SqL.of (hid_out ea).2, atI_of h0 hx, q _ (da.get hx hd)⟩
theorem lenL (dx : DT (hid [g] H) x (.list ds)) (q : Q (.int ((ds.length : Nat) : Int)) H) : ∃ p ys, [x] = [V.ref p] ∧ (SqL K H p ys ∨ SqT K H p ys) ∧ Q (.int ((ys.length : Nat) : Int)) H := by
  obtain ⟨a, xs, rfl, ea, da⟩ := dx.refl'
  rw [← da.length] at q
  exact ⟨a, xs, rfl, .inl (SqL.of (hid_out ea).2), q⟩
theorem eqN {z : Addr} (dx : DT (hid [g] H) x (.list ds)) (hz : H z = some (.lst [])) (q : Q (.bl ds.isEmpty) H) : rEqNil x (.ref z) H Q := by
  obtain ⟨a, xs, rfl, ea, da⟩ := dx.refl'
  refine ⟨a, z, xs, rfl, rfl, (hid_out ea).2, hz, ?_⟩
  have : xs.isEmpty = ds.isEmpty := by
    cases da <;> rfl
  rw [this]
  exact q
theorem rep5 (hg : ∃ o, H g = some o) (dx : DT (hid [g] H) x (.tuple [.int 1])) (q : ∀ v H', Same H H' → DT (hid [g] H') v (.tuple [.int 1, .int 1, .int 1, .int 1, .int 1]) → Q v H') : rRepT K x (.int 5) H Q := by
  obtain ⟨a, xs, rfl, ea, da⟩ := dx.tup'
  obtain rfl : xs = [.int 1] := by
    cases da with
    | cons h r =>
      cases h
      cases r
      rfl
  refine ⟨a, 5, _, rfl, rfl, SqT.of (hid_out ea).2, by simp, by decide, by decide, by decide, fun p np => ?_⟩
  obtain ⟨s, e⟩ := dt_tup hg np (ds := [.int 1, .int 1, .int 1, .int 1, .int 1]) (xs := [.int 1, .int 1, .int 1, .int 1, .int 1]) (.cons (.int _) (.cons (.int _) (.cons (.int _) (.cons (.int _) (.cons (.int _) .nil)))))
  exact q _ _ s e
theorem slT_n {σ : L2.St} {lo : Option Int} (hg : ∃ o, H g = some o) (dx : DT (hid [g] H) x (.tuple ds)) (q : ∀ v H', Same H H' → DT (hid [g] H') v (.tuple (cutD ds lo none)) → Q v H') : tNoPart σ H fun u H3 => rSlA K x lo u H3 Q := slT hg dx q
theorem slL_n {σ : L2.St} {lo : Option Int} (hg : ∃ o, H g = some o) (dx : DT (hid [g] H) x (.list ds)) (q : ∀ v H', Same H H' → DT (hid [g] H') v (.list (cutD ds lo none)) → Q v H') : tNoPart σ H fun u H3 => rSlL K x lo u H3 Q := slL hg dx q
theorem lofT_n {σ : L2.St} (hg : ∃ o, H g = some o) (dx : DT (hid [g] H) x (.tuple ds)) (q : ∀ v H', Same H H' → DT (hid [g] H') v (.list ds) → Q v H') : tNil σ H fun xs H2 => rLofK K (x :: xs) H2 Q := lofT hg dx q
theorem tofL_n {σ : L2.St} (hg : ∃ o, H g = some o) (dx : DT (hid [g] H) x (.list ds)) (q : ∀ v H', Same H H' → DT (hid [g] H') v (.tuple ds) → Q v H') : tNil σ H fun xs H2 => rTof K (x :: xs) H2 Q := tofL hg dx q
theorem rep5_n {σ : L2.St} (hg : ∃ o, H g = some o) (dx : DT (hid [g] H) x (.tuple [.int 1])) (q : ∀ v H', Same H H' → DT (hid [g] H') v (.tuple [.int 1, .int 1, .int 1, .int 1, .int 1]) → Q v H') : tC (.int 5) σ H fun y H2 => rRepT K x y H2 Q := rep5 hg dx q
end
end Cb
set_option Elab.async false
set_option linter.all false
set_option maxRecDepth 100000
set_option maxHeartbeats 4000000
namespace Cb
open PySem PySem.Spec PyProof.Rows L2
abbrev s_l_bent : Stmt := topS 32
abbrev NLb : List Str := ["_law_generator_here", "_law_picture", "_law_registers", "_law_frame", "_law_handler", "_law_first", "_law_cells", "_law_way", "_law_many", "_law_spot", "_law_number", "_law_told", "_law_odd", "_law_at", "_law_mark", "_law_contents", "_law_link", "_law_changed"]
theorem sc_l_bent : FnScope NLb ["_law_generator_here", "_law_picture"] (defScope s_l_bent) := ⟨rfl, rfl, rfl, by decide +kernel, rfl, by decide +kernel, by decide +kernel⟩
structure TLb (K : PySem.W.Frag) (mg : Str → Option Value) : Prop where
  tx : TLx K mg
  d_l_bent : Has K mg "_law_bent" s_l_bent ["_law_generator_here", "_law_picture"]
  b_list : mg "list" = none
  b_tuple : mg "tuple" = none
def nums (m : Int) : List PyData := [.int 0, .int m, .int (m + 1), .int (-1), .bool true, .none, .int 1, .str "1"]
theorem nums_ok {m : Int} (h0 : 0 ≤ m) (h9 : m ≤ 9) : ∀ d ∈ nums m, Gd 200 3 d := by
  unfold nums
  exact fa (gd_int (by decide) (by decide)) (fa (gd_int (by omega) (by decide)) (fa (gd_int (by omega) (by decide)) (fa (gd_int (by decide) (by decide)) (fa (gd_bool _) (fa gd_none (fa (gd_int (by decide) (by decide)) (fa (gd_str (by decide) (by decide)) fn)))))))
theorem okcell_mk {m l : PyData} {xs : List PyData} (hm : Gd 200 3 m) (hx : xs.length ≤ 5) (ha : ∀ x ∈ xs, okc x) (hl : Gd 200 3 l) : okcell (.tuple [m, .tuple xs, l]) := by
  refine ⟨gd_tup (n := 1005) (k := 4) 3 (fa (hm.mono (by decide) (by decide)) (fa (gd_tup (n := 200) (k := 3) 5 (fun x h => (ha x h).2) hx (by decide) (by decide)) (fa (hl.mono (by decide) (by decide)) fn))) (Nat.le_refl 3) (by decide) (by decide), ?_⟩
  intro m' xs' l' e
  simp only [PyData.tuple.injEq, List.cons.injEq, and_true] at e
  obtain ⟨rfl, rfl, rfl⟩ := e
  exact ⟨hm, hx, ha⟩
def ch1 (m : PyData) (xs : List PyData) (l : Int) (nd wd : PyData) : List PyData := [.tuple [.none, .tuple xs, .int l], .tuple [m, .tuple xs, nd], .tuple [m, .tuple (xs ++ [wd]), .int l], .tuple [m, .tuple (xs.drop 1), .int l]]
def ch2 (m : PyData) (xs : List PyData) (l k : Int) : List PyData := [.tuple [m, .tuple xs, .int 0], .tuple [m, .tuple (xs ++ [.tuple [.str "cell", .int k]]), .int l]]
def ch3 (m : PyData) (xs : List PyData) (l : Int) : List PyData := [.list [m, .tuple xs, .int l], .tuple [m, .tuple xs], .tuple [m, .list xs, .int l], .tuple [m, .tuple [.int 1, .int 1, .int 1, .int 1, .int 1], .int l], .tuple [.str "frame", .tuple xs, .int l], .tuple [.tuple [.str "frame", .str "f", .int 1], .tuple xs, .int l]]
theorem gd_one {n k : Nat} (h : 1 ≤ n) : Gd n k (.int 1) := ⟨by decide +kernel, by decide +kernel, by simp [PyData.depth], Nat.le_trans (by decide +kernel) h⟩
theorem ch_ok {m nd wd : PyData} {xs : List PyData} {l k : Int} (hm : Gd 200 3 m) (hx : xs.length ≤ 4) (ha : ∀ x ∈ xs, okc x) (hl : l.natAbs < 2 ^ 64) (hn : Gd 200 3 nd) (hw : okc wd) (hk : k.natAbs < 2 ^ 64) : ∀ c ∈ ch1 m xs l nd wd ++ ch2 m xs l k ++ ch3 m xs l, okcell c := by
  have gl : Gd 200 3 (.int l) := gd_int hl (by decide)
  have app : ∀ w, okc w → ∀ x ∈ xs ++ [w], okc x := fun w h x hx => (List.mem_append.mp hx).elim (ha x) fun z => by rw [List.mem_singleton.mp z]; exact h
  have la : ∀ w : PyData, (xs ++ [w]).length ≤ 5 := fun w => by rw [List.length_append]; exact Nat.add_le_add_right hx 1
  have gx : Gd 1005 4 (.tuple xs) := gd_tup (n := 200) (k := 3) 5 (fun x h => (ha x h).2) (by omega) (by decide) (by decide)
  have gx2 : Gd 1005 4 (.list xs) := gd_list (n := 200) (k := 3) 5 (fun x h => (ha x h).2) (by omega) (by decide) (by decide)
  have g2 : Gd 1005 4 m := hm.mono (by decide) (by decide)
  have gl2 : Gd 1005 4 (.int l) := gl.mono (by decide) (by decide)
  unfold ch1 ch2 ch3
  refine fa (okcell_mk gd_none (by omega) ha gl) ?_
  refine fa (okcell_mk hm (by omega) ha hn) ?_
  refine fa (okcell_mk hm (la _) (app _ hw) gl) ?_
  refine fa (okcell_mk hm (by rw [List.length_drop]; omega) (fun x h => ha x (List.mem_of_mem_drop h)) gl) ?_
  refine fa (okcell_mk hm (by omega) ha (gd_int (by decide) (by decide))) ?_
  refine fa (okcell_mk hm (la _) (app _ (okc_pair' (by decide) (by decide) (gd_int hk (by decide)) (by decide))) gl) ?_
  refine fa ⟨gd_list (n := 1005) (k := 4) 3 (fa g2 (fa gx (fa gl2 fn))) (Nat.le_refl 3) (by decide) (by decide), fun _ _ _ => PyData.noConfusion⟩ ?_
  refine fa ⟨gd_tup (n := 1005) (k := 4) 3 (fa g2 (fa gx fn)) (show 2 ≤ 3 by decide) (by decide) (by decide), fun _ _ _ e => by simp at e⟩ ?_
  refine fa ⟨gd_tup (n := 1005) (k := 4) 3 (fa g2 (fa gx2 (fa gl2 fn))) (Nat.le_refl 3) (by decide) (by decide), fun _ _ _ e => by simp at e⟩ ?_
  refine fa (okcell_mk hm (Nat.le_refl 5) (fun x h => ?_) gl) ?_
  · simp only [List.mem_cons, List.not_mem_nil, or_false, or_self] at h
    rw [h]
    exact okc_leaf (fun _ _ => PyData.noConfusion) (gd_int (by decide) (by decide))
  refine fa (okcell_mk (gd_str (by decide) (by decide)) (by omega) ha gl) ?_
  exact fa (okcell_mk (gd_tup (n := 60) (k := 0) 3 (fa (gd_str (by decide) (by decide)) (fa (gd_str (by decide) (by decide)) (fa (gd_one (by decide)) fn))) (Nat.le_refl 3) (by decide) (by decide)) (by omega) ha gl) fn
theorem gname_norm {i : Nat} {v : V} {σ σ' : L2.St} {H : Hp} {Q : L2.St → Hp → Prop} (e : σ.set i (some v) = σ') (h : Q σ' H) : gName i v σ H Q := by
  subst e
  exact h
theorem mem_cutD {x : PyData} {ds : List PyData} {lo hi : Option Int} (h : x ∈ cutD ds lo hi) : x ∈ ds := List.mem_of_mem_drop (List.mem_of_mem_take h)
theorem picB_odd {d : PyData} (g : Gd 200000 8 d) (t : tpic d) (f : formP d = false) : PicB d := ⟨g, t, fun h => by rw [f] at h; cases h⟩
def pic5 (rs : List PyData) (a b c : Int) (cs : List PyData) : List PyData := [.list rs, .int a, .int b, .int c, .list cs]
def odds (rs : List PyData) (a b c : Int) (cs : List PyData) : List PyData := [.list (pic5 rs a b c cs), .tuple (cutD (pic5 rs a b c cs) none (some 4)), .tuple (pic5 rs a b c cs ++ [.int 0]), .tuple ([.tuple rs] ++ cutD (pic5 rs a b c cs) (some 1) none), .tuple (cutD (pic5 rs a b c cs) none (some 4) ++ [.tuple cs]), .none]
def odds2 (rs : List PyData) (a b c : Int) (cs : List PyData) : List PyData := [.tuple ([.list (rs ++ [.none])] ++ cutD (pic5 rs a b c cs) (some 1) none), .tuple ([.list (cutD rs (some 1) none)] ++ cutD (pic5 rs a b c cs) (some 1) none)]
theorem odds_ok {rs cs : List PyData} {a b c : Int} (h1 : ∀ x ∈ rs, okc x) (l1 : rs.length = 64) (ha : a.natAbs < 2 ^ 64) (hb : b.natAbs < 2 ^ 64) (hc : c.natAbs < 2 ^ 64) (h2 : ∀ x ∈ cs, okcell x) (l2 : cs.length ≤ 9) : ∀ d ∈ odds rs a b c cs ++ odds2 rs a b c cs, PicB d := by
  have g1 : Gd 28000 6 (.list rs) := gd_list (n := 200) (k := 3) 65 (fun x hx => (h1 x hx).2) (by omega) (by decide) (by decide)
  have g1t : Gd 28000 6 (.tuple rs) := gd_tup (n := 200) (k := 3) 65 (fun x hx => (h1 x hx).2) (by omega) (by decide) (by decide)
  have g2 : Gd 28000 6 (.list cs) := gd_list (n := 3100) (k := 5) 9 (fun x hx => (h2 x hx).1) l2 (by decide) (by decide)
  have g2t : Gd 28000 6 (.tuple cs) := gd_tup (n := 3100) (k := 5) 9 (fun x hx => (h2 x hx).1) l2 (by decide) (by decide)
  have ga : Gd 28000 6 (.int a) := gd_int ha (by decide)
  have gb : Gd 28000 6 (.int b) := gd_int hb (by decide)
  have gc : Gd 28000 6 (.int c) := gd_int hc (by decide)
  have e4 : cutD (pic5 rs a b c cs) none (some 4) = [.list rs, .int a, .int b, .int c] := rfl
  have e1 : cutD (pic5 rs a b c cs) (some 1) none = [.int a, .int b, .int c, .list cs] := rfl
  have z : Gd 28000 6 (.int 0) := gd_int (by decide) (by decide)
  unfold odds odds2
  rw [e4, e1]
  simp only [List.cons_append, List.nil_append]
  refine fa (picB_odd (gd_list (n := 28000) (k := 6) 5 (fa g1 (fa ga (fa gb (fa gc (fa g2 fn))))) (Nat.le_refl 5) (by decide) (by decide)) (fun _ _ _ _ _ => PyData.noConfusion) rfl) ?_
  refine fa (picB_odd (gd_tup (n := 28000) (k := 6) 5 (fa g1 (fa ga (fa gb (fa gc fn)))) (show 4 ≤ 5 by decide) (by decide) (by decide)) (fun _ _ _ _ _ e => by simp at e) (formP_len (show (4 : Nat) ≠ 5 by decide))) ?_
  refine fa (picB_odd (gd_tup (n := 28000) (k := 6) 6 (fa g1 (fa ga (fa gb (fa gc (fa g2 (fa z fn)))))) (Nat.le_refl 6) (by decide) (by decide)) (fun _ _ _ _ _ e => by simp [pic5] at e) (formP_len (show (6 : Nat) ≠ 5 by decide))) ?_
  refine fa (picB_odd (gd_tup (n := 28000) (k := 6) 5 (fa g1t (fa ga (fa gb (fa gc (fa g2 fn))))) (Nat.le_refl 5) (by decide) (by decide)) (fun r a' b' c' k e => ?_) rfl) ?_
  · simp only [List.cons_append, List.nil_append, PyData.tuple.injEq, List.cons.injEq, and_true] at e
    obtain ⟨rfl, rfl, rfl, rfl, rfl⟩ := e
    refine ⟨(fun rs' e => nomatch e), fun cs' e => ?_⟩
    obtain rfl : cs = cs' := by simpa using e
    exact ⟨by omega, fun x hx => okcell_t (h2 x hx)⟩
  refine fa (picB_odd (gd_tup (n := 28000) (k := 6) 5 (fa g1 (fa ga (fa gb (fa gc (fa g2t fn))))) (Nat.le_refl 5) (by decide) (by decide)) (fun r a' b' c' k e => ?_) rfl) ?_
  · simp only [List.cons_append, List.nil_append, PyData.tuple.injEq, List.cons.injEq, and_true] at e
    obtain ⟨rfl, rfl, rfl, rfl, rfl⟩ := e
    refine ⟨fun rs' e => ?_, fun cs' e => nomatch e⟩
    obtain rfl : rs = rs' := by simpa using e
    exact ⟨by omega, fun x hx => (h1 x hx).1⟩
  refine fa (picB_odd gd_none (fun _ _ _ _ _ => PyData.noConfusion) rfl) ?_
  have gi : ∀ i : Int, i.natAbs < 2 ^ 64 → Gd 200 3 (.int i) := fun i h => gd_int h (by decide)
  refine fa (pic_mk (rs := rs ++ [.none]) (fun x hx => (List.mem_append.mp hx).elim (h1 x) fun z => by rw [List.mem_singleton.mp z]; exact okc_leaf (fun _ _ => PyData.noConfusion) gd_none) (by rw [List.length_append]; show rs.length + 1 ≤ 65; omega) (gi a ha) (gi b hb) (gi c hc) h2 l2) ?_
  exact fa (pic_mk (fun x hx => h1 x (mem_cutD hx)) (by rw [cutD_d1, List.length_drop]; omega) (gi a ha) (gi b hb) (gi c hc) h2 l2) fn
section
variable {P : Program} {w : World} {K : PySem.W.Frag} {mg : Str → Option Value} {base : Heap}
def sp_l_bent : Sp := fun vs H Q _ => ∃ (g : Addr) (s t0 : Int) (n : Nat) (v : V) (d : PyData), vs = [.ref g, v] ∧ Gn g s t0 n H ∧ 0 ≤ t0 ∧ t0 + (n + 100 : Nat) < 2 ^ 62 ∧ DT (hid [g] H) v d ∧ PicB d ∧ formP d = true ∧
  ∀ (v' : V) (d' : PyData) (H' : Hp), DT (hid [g] H') v' d' → PicB d' → Gn g s t0 (n + 100) H' → Keep [g] H H' → Q v' H'
theorem b_l_bent (T : TLb K mg) : Body P w K mg base 5 "_law_bent" s_l_bent NLb sp_l_bent := by
  intro f cdv A outer st H vs Q E hr h
  refine ⟨_, (pss_cons (ps_asg (pv 1) (pg_tup rfl (pgs_cons (pg_name (i := 2) sc_l_bent.nd rfl (.inl rfl)) (pgs_cons (pg_name (i := 3) sc_l_bent.nd rfl (.inl rfl)) (pgs_cons (pg_name (i := 4) sc_l_bent.nd rfl (.inl rfl)) (pgs_cons (pg_name (i := 5) sc_l_bent.nd rfl (.inl rfl)) (pgs_cons (pg_name (i := 6) sc_l_bent.nd rfl (.inl rfl)) pgs_nil)))))))
    (pss_cons (ps_par3 (i := 7) (j := 8) (l := 9) rfl sc_l_bent.nd rfl rfl rfl (by decide) (by decide) (by decide) rfl rfl rfl (pa_cons (pe_s (c_l_random T.tx.tg) hr (pa_cons (pv 0) (pa_cons pe_int pa_nil))) (pa_cons (pe_callB call_len_seq (by rfl) T.tx.tg.b_len (by decide +kernel) (pa_cons (pv 6) pa_nil)) (pa_cons (pe_s (c_l_random T.tx.tg) hr (pa_cons (pv 0) (pa_cons pe_int pa_nil))) pa_nil))) rfl)
    (pss_cons (ps_set (i := 10) sc_l_bent.nd rfl (.inl rfl) (pe_ix ix_list (pe_lst (pa_cons pe_int (pa_cons (pv 8) (pa_cons (pe_op op_add (pv 8) pe_int) (pa_cons (pe_un un_neg pe_int) (pa_cons pe_bl (pa_cons pe_non (pa_cons pe_int (pa_cons pe_str pa_nil))))))))) (pe_s (c_l_random T.tx.tg) hr (pa_cons (pv 0) (pa_cons pe_int pa_nil))) (fun _ _ => rfl)))
    (pss_cons (ps_if (pt_cmpR op_lt (pv 7) pe_int (nomark _))
        (pss_one (ps_ret (pe_tup (pa_cons (pe_op op_cat (pe_op op_cat (pe_slice sl_list (pv 2) po_none (po_some (pv 9))) (pe_lst (pa_cons (pe_s (c_l_wrong T.tx) hr (pa_cons (pv 0) (pa_cons (pv 8) pa_nil))) pa_nil))) (pe_slice sl_list (pv 2) (po_some (pe_op op_add (pv 9) pe_int)) po_none)) (pa_cons (pv 3) (pa_cons (pv 4) (pa_cons (pv 5) (pa_cons (pv 6) pa_nil))))))))
        pss_nil)
    (pss_cons (ps_if (pt_cmpR op_eq (pv 7) pe_int (nomark _))
        (pss_cons (ps_set (i := 11) sc_l_bent.nd rfl (.inl rfl) (pe_lst (pa_cons (pv 3) (pa_cons (pv 4) (pa_cons (pv 5) pa_nil)))))
        (pss_cons (ps_asg (pv 10) (pg_sub (pv 11) (pe_s (c_l_random T.tx.tg) hr (pa_cons (pv 0) (pa_cons pe_int pa_nil))) set_list))
        (pss_one (ps_ret (pe_tup (pa_cons (pv 2) (pa_cons (pe_ix ix_list (pv 11) pe_int (fun _ _ => rfl)) (pa_cons (pe_ix ix_list (pv 11) pe_int (fun _ _ => rfl)) (pa_cons (pe_ix ix_list (pv 11) pe_int (fun _ _ => rfl)) (pa_cons (pv 6) pa_nil))))))))))
        pss_nil)
    (pss_cons (ps_if (pt_cmpR op_eq (pv 7) pe_int (nomark _))
        (pss_cons (ps_set (i := 12) sc_l_bent.nd rfl (.inl rfl) (pe_lst (pa_cons (pe_callTy call_lofK (by rfl) T.b_list (by decide +kernel) (pa_cons (pv 1) pa_nil)) (pa_cons (pe_slice sl_tupA (pv 1) po_none (po_some pe_int)) (pa_cons (pe_op op_catA (pv 1) (pe_tup (pa_cons pe_int pa_nil))) (pa_cons (pe_op op_catA (pe_tup (pa_cons (pe_callTy call_tof (by rfl) T.b_tuple (by decide +kernel) (pa_cons (pv 2) pa_nil)) pa_nil)) (pe_slice sl_tupA (pv 1) (po_some pe_int) po_none)) (pa_cons (pe_op op_catA (pe_slice sl_tupA (pv 1) po_none (po_some pe_int)) (pe_tup (pa_cons (pe_callTy call_tof (by rfl) T.b_tuple (by decide +kernel) (pa_cons (pv 6) pa_nil)) pa_nil))) (pa_cons pe_non pa_nil))))))))
        (pss_one (ps_ret (pe_ix ix_list (pe_op op_cat (pv 12) (pe_lst (pa_cons (pe_op op_catA (pe_tup (pa_cons (pe_op op_cat (pv 2) (pe_lst (pa_cons pe_non pa_nil))) pa_nil)) (pe_slice sl_tupA (pv 1) (po_some pe_int) po_none)) (pa_cons (pe_op op_catA (pe_tup (pa_cons (pe_slice sl_list (pv 2) (po_some pe_int) po_none) pa_nil)) (pe_slice sl_tupA (pv 1) (po_some pe_int) po_none)) pa_nil)))) (pe_s (c_l_random T.tx.tg) hr (pa_cons (pv 0) (pa_cons pe_int pa_nil))) (fun _ _ => rfl)))))
        pss_nil)
    (pss_cons (ps_if (pt_cmpR (op_eqNil hr.units) (pv 6) (pe_lst pa_nil) (nomark _))
        (pss_one (ps_ret (pv 1)))
        pss_nil)
    (pss_cons (ps_set (i := 13) sc_l_bent.nd rfl (.inl rfl) (pe_s (c_l_random T.tx.tg) hr (pa_cons (pv 0) (pa_cons (pv 8) pa_nil))))
    (pss_cons (ps_asg (pe_ix ix_list (pv 6) (pv 13) (fun _ _ => rfl)) (pg_tup rfl (pgs_cons (pg_name (i := 14) sc_l_bent.nd rfl (.inl rfl)) (pgs_cons (pg_name (i := 15) sc_l_bent.nd rfl (.inl rfl)) (pgs_cons (pg_name (i := 16) sc_l_bent.nd rfl (.inl rfl)) pgs_nil)))))
    (pss_cons (ps_set (i := 17) sc_l_bent.nd rfl (.inl rfl) (pe_lst (pa_cons (pe_tup (pa_cons pe_non (pa_cons (pv 15) (pa_cons (pv 16) pa_nil)))) (pa_cons (pe_tup (pa_cons (pv 14) (pa_cons (pv 15) (pa_cons (pv 10) pa_nil)))) (pa_cons (pe_tup (pa_cons (pv 14) (pa_cons (pe_op op_catA (pv 15) (pe_tup (pa_cons (pe_s (c_l_wrong T.tx) hr (pa_cons (pv 0) (pa_cons (pv 8) pa_nil))) pa_nil))) (pa_cons (pv 16) pa_nil)))) (pa_cons (pe_tup (pa_cons (pv 14) (pa_cons (pe_slice sl_tupA (pv 15) (po_some pe_int) po_none) (pa_cons (pv 16) pa_nil)))) pa_nil))))))
    (pss_cons (ps_set (i := 17) sc_l_bent.nd rfl (.inl rfl) (pe_op op_cat (pv 17) (pe_lst (pa_cons (pe_tup (pa_cons (pv 14) (pa_cons (pv 15) (pa_cons pe_int pa_nil)))) (pa_cons (pe_tup (pa_cons (pv 14) (pa_cons (pe_op op_catA (pv 15) (pe_tup (pa_cons (pe_tup (pa_cons pe_str (pa_cons (pe_op op_add pe_int (pe_s (c_l_random T.tx.tg) hr (pa_cons (pv 0) (pa_cons (pv 8) pa_nil)))) pa_nil))) pa_nil))) (pa_cons (pv 16) pa_nil)))) pa_nil)))))
    (pss_cons (ps_set (i := 17) sc_l_bent.nd rfl (.inl rfl) (pe_op op_cat (pv 17) (pe_lst (pa_cons (pe_lst (pa_cons (pv 14) (pa_cons (pv 15) (pa_cons (pv 16) pa_nil)))) (pa_cons (pe_tup (pa_cons (pv 14) (pa_cons (pv 15) pa_nil))) (pa_cons (pe_tup (pa_cons (pv 14) (pa_cons (pe_callTy call_lofK (by rfl) T.b_list (by decide +kernel) (pa_cons (pv 15) pa_nil)) (pa_cons (pv 16) pa_nil)))) (pa_cons (pe_tup (pa_cons (pv 14) (pa_cons (pe_op op_repT (pe_tup (pa_cons pe_int pa_nil)) pe_int) (pa_cons (pv 16) pa_nil)))) (pa_cons (pe_tup (pa_cons pe_str (pa_cons (pv 15) (pa_cons (pv 16) pa_nil)))) (pa_cons (pe_tup (pa_cons (pe_tup (pa_cons pe_str (pa_cons pe_str (pa_cons pe_int pa_nil)))) (pa_cons (pv 15) (pa_cons (pv 16) pa_nil)))) pa_nil)))))))))
    (pss_one (ps_ret (pe_op op_catA (pe_slice sl_tupA (pv 1) po_none (po_some pe_int)) (pe_tup (pa_cons (pe_op op_cat (pe_op op_cat (pe_slice sl_list (pv 6) po_none (po_some (pv 13))) (pe_lst (pa_cons (pe_ix ix_list (pv 17) (pe_s (c_l_random T.tx.tg) hr (pa_cons (pv 0) (pa_cons (pe_callB call_len_seq (by rfl) T.tx.tg.b_len (by decide +kernel) (pa_cons (pv 17) pa_nil)) pa_nil))) (fun _ _ => rfl)) pa_nil))) (pe_slice sl_list (pv 6) (po_some (pe_op op_add (pv 13) pe_int)) po_none)) pa_nil))))))))))))))))), ?_⟩
  obtain ⟨g, s0, t0, n0, v, d, rfl, G, h0, h1, hd, pB, pF, q⟩ := h
  obtain ⟨rs, fr, hh, l, cs, rfl, okr, lc9, okc'⟩ := pB.2.2 pF
  obtain ⟨rs', fr', hh', l', cs', e, l64, _, ⟨b1, b2, b3⟩, allc⟩ := form_inv pF
  simp only [PyData.tuple.injEq, List.cons.injEq, PyData.list.injEq, PyData.int.injEq, and_true] at e
  obtain ⟨rfl, rfl, rfl, rfl, rfl⟩ := e
  have hd0 := hd
  obtain ⟨p, xs, rfl, ep, dp⟩ := hd.tup'
  obtain ⟨v1, v2, v3, v4, v5, a1, a2, a3, a4, a5, rfl, ea, h1', h2, h3, h4, h5⟩ := dp.five rfl
  simp only [List.cons.injEq, and_true] at ea
  obtain ⟨rfl, rfl, rfl, rfl, rfl⟩ := ea
  cases h2
  cases h3
  cases h4
  have hgn : ∀ {n : Nat} {H' : Hp}, Gn g s0 t0 n H' → ∃ o, H' g = some o := fun G => by
    obtain ⟨a, t, e, _⟩ := G
    exact ⟨_, e⟩
  refine ⟨_, rfl, p, _, rfl, SqT.of (hid_out ep).2, rfl, _, _, rfl, _, _, rfl, _, _, rfl, _, _, rfl, _, _, rfl, rfl, ?_⟩
  obtain ⟨pc, cv, rfl, epc, dcv⟩ := h5.refl'
  have lcv := dcv.length
  refine ⟨_, rfl, draw G h0 (by omega) (by decide) (by decide) fun way H1 w0 w1 G1 k1 => ⟨_, rfl, pc, cv, rfl, .inl (SqL.of (k1 _ _ (hid_out epc).1 (hid_out epc).2)), _, rfl, draw G1 h0 (by omega) (by decide) (by decide) fun spot H2 sp0 sp1 G2 k2 => ⟨_, _, _, rfl, ?_⟩⟩⟩
  rw [lcv]
  have kk2 := k1.trans k2
  have m0 : (0 : Int) ≤ (cs.length : Nat) := Int.natCast_nonneg _
  have m9 : ((cs.length : Nat) : Int) ≤ 9 := by omega
  refine ⟨_, rfl, _, rfl, _, _, rfl, rfl, _, rfl, (show 8 ≤ sizeLine by decide), fun nl nnl => ?_⟩
  obtain ⟨s3, d3⟩ := dt_lst (hgn G2) nnl (ds := nums cs.length) (.cons (.int _) (.cons (.int _) (.cons (.int _) (.cons (.int _) (.cons (.bl _) (.cons .non (.cons (.int _) (.cons (.str _) .nil))))))))
  refine ⟨_, rfl, draw (G2.same s3) h0 (by omega) (by decide) (by decide) fun r H4 r0 r1 G4 k4 => ?_⟩
  have lnum : (nums cs.length).length = 8 := rfl
  have hnd : (nums cs.length)[r.toNat]? = some ((nums cs.length)[r.toNat]'(by omega)) := List.getElem?_eq_getElem _
  have gnd := nums_ok m0 m9 _ (List.mem_of_getElem? hnd)
  generalize (nums cs.length)[r.toNat]'(by omega) = nd at hnd gnd
  refine ixD (d3.same k4.hid _) r0 hnd fun nv dn => ?_
  have kk4 := (kk2.trans (same_keep s3)).trans k4
  clear hnd d3 s3 k4 k2 k1 G1 G2 kk2 lnum r0 r1 G
  have lrs : rs.length = 64 := l64
  obtain ⟨sp, rfl⟩ : ∃ sp : Nat, spot = (sp : Int) := ⟨spot.toNat, (Int.toNat_of_nonneg sp0).symm⟩
  have gi : ∀ i : Int, 0 ≤ i ∧ i ≤ ((cs.length : Nat) : Int) → Gd 200 3 (.int i) := fun i h => gd_int (by omega) (by decide)
  have gf := gi _ b1
  have gh := gi _ b2
  have gl := gi _ b3
  refine gname_norm (σ' := [some (.ref g), some (.ref p), some v1, some (.int fr), some (.int hh), some (.int l), some (.ref pc), some (.int way), some (.int ((cs.length : Nat) : Int)), some (.int (sp : Int)), some nv, none, none, none, none, none, none, none]) rfl ?_
  refine ⟨_, rfl, _, _, rfl, rfl, _, rfl, ite2 (fun _ => ?_) (fun _ => ?_)⟩
  · refine ⟨_, rfl, _, rfl, sp, rfl, slL (hgn G4) (h1'.same kk4.hid _) fun va Ha sa da => ?_⟩
    refine ⟨_, rfl, _, rfl, g, s0, t0, _, _, rfl, m0, m9, G4.same sa, h0, by omega, fun wv wd Hb dw ow Gb kb => ⟨(show 1 ≤ sizeLine by decide), fun z nz => ?_⟩⟩
    obtain ⟨sz, dz⟩ := dt_lst (hgn Gb) nz (ds := [wd]) (.cons dw .nil)
    have Gz := Gb.same sz
    have kz := ((kk4.trans (same_keep sa)).trans kb).trans (same_keep sz)
    have daz := (da.same kb.hid _).same (hidS sz) _
    generalize upd Hb z (.lst [wv]) = Hz at sz dz Gz kz daz ⊢
    have l1 : (cutD rs none (some (sp : Int))).length = sp := by rw [cutD_to (by omega), List.length_take]; omega
    refine catL (hgn Gz) daz dz (by rw [l1]; exact Nat.le_trans (show sp + 1 ≤ 65 by omega) (by decide)) fun vc Hc sc dc => ?_
    have Gc := Gz.same sc
    have kc := kz.trans (same_keep sc)
    refine ⟨_, rfl, _, rfl, _, _, rfl, rfl, _, rfl, ?_⟩
    refine slL_n (hgn Gc) (h1'.same kc.hid _) fun vd Hd sd dd => ?_
    have Gd' := Gc.same sd
    have kd := kc.trans (same_keep sd)
    have l2 : (cutD rs (some ((sp : Int) + 1)) none).length = 64 - (sp + 1) := by
      rw [show (sp : Int) + 1 = ((sp + 1 : Nat) : Int) by omega, cutD_from (by omega), List.length_drop, lrs]
    refine catL (hgn Gd') (dc.same (hidS sd) _) dd (by rw [l2, List.length_append, l1]; exact Nat.le_trans (show sp + 1 + (64 - (sp + 1)) ≤ 65 by omega) (by decide)) fun ve He se de => ?_
    have Ge := Gd'.same se
    have ke := kd.trans (same_keep se)
    refine ⟨_, rfl, _, rfl, _, rfl, _, rfl, (show 5 ≤ sizeLine by decide), fun u nu => ?_⟩
    obtain ⟨su, du⟩ := dt_tup (hgn Ge) nu (.cons de (.cons (.int fr) (.cons (.int hh) (.cons (.int l) (.cons (h5.same ke.hid _) .nil)))))
    refine q _ _ _ du (pic_mk ?_ ?_ gf gh gl okc' lc9) ((Ge.same su).mono (by omega)) (ke.trans (same_keep su))
    · intro x hx
      rcases List.mem_append.mp hx with hx | hx
      · rcases List.mem_append.mp hx with hx | hx
        · exact okr x (mem_cutD hx)
        · rw [List.mem_singleton.mp hx]
          exact ow
      · exact okr x (mem_cutD hx)
    · rw [List.length_append, List.length_append, l1, l2]
      show sp + 1 + (64 - (sp + 1)) ≤ 65
      omega
  refine ⟨_, rfl, rfl, _, rfl, ite2 (fun _ => ?_) (fun _ => ?_)⟩
  · refine ⟨_, rfl, _, rfl, _, rfl, (show 3 ≤ sizeLine by decide), fun z nz => ?_⟩
    have nz0 : H z = none := kk4.free nz (nin1 (G4.some nz))
    have nzg := G4.some nz
    have Gz := G4.new (o := .lst [.int fr, .int hh, .int l]) nz
    have hz : (upd H4 z (.lst [.int fr, .int hh, .int l])) z = some (.lst [.int fr, .int hh, .int l]) := upd_same
    have kz : Keep [g] H4 (upd H4 z (.lst [.int fr, .int hh, .int l])) := keep_new nz
    generalize upd H4 z (.lst [.int fr, .int hh, .int l]) = Hz at Gz hz kz ⊢
    refine ⟨_, rfl, _, rfl, _, rfl, draw Gz h0 (by omega) (by decide) (by decide) fun r Hb r0 r1 Gb kb => ?_⟩
    have hzb := kb _ _ (nin1 nzg) hz
    refine ⟨z, _, r, _, rfl, rfl, hzb, ixN_int r0 (show r < 3 by omega), ?_⟩
    have k5 : ∀ o, Keep [g] H4 (upd Hb z o) := fun o b u nb e => by
      rw [upd_ne (ne_of_none e nz)]
      exact kb _ _ nb (kz _ _ nb e)
    have kk5 := fun o => kk4.trans (k5 o)
    have G5 : ∀ o, Gn g s0 t0 _ (upd Hb z o) := fun o => Gb.off (Ne.symm nzg)
    rcases (show r = 0 ∨ r = 1 ∨ r = 2 by omega) with rfl | rfl | rfl
    · rw [show ([V.int fr, .int hh, .int l] : List V).set (Int.toNat 0) nv = [nv, .int hh, .int l] from rfl]
      have k6 := k5 (.lst [nv, .int hh, .int l])
      have kk6 := kk5 (.lst [nv, .int hh, .int l])
      have G6 := G5 (.lst [nv, .int hh, .int l])
      have hz6 : (upd Hb z (.lst [nv, .int hh, .int l])) z = some (.lst [nv, .int hh, .int l]) := upd_same
      generalize upd Hb z (.lst [nv, .int hh, .int l]) = H6 at k6 kk6 G6 hz6 ⊢
      refine ⟨_, rfl, _, rfl, z, _, 0, _, rfl, rfl, SqL.of hz6, rfl, _, rfl, z, _, 1, _, rfl, rfl, SqL.of hz6, rfl, _, rfl, z, _, 2, _, rfl, rfl, SqL.of hz6, rfl, _, rfl, (show 5 ≤ sizeLine by decide), fun u nu => ?_⟩
      obtain ⟨su, du⟩ := dt_tup (hgn G6) nu (.cons (h1'.same kk6.hid _) (.cons (dn.same k6.hid _) (.cons (.int hh) (.cons (.int l) (.cons (h5.same kk6.hid _) .nil)))))
      exact q _ _ _ du (pic_mk okr (by omega) gnd gh gl okc' lc9) ((G6.same su).mono (by omega)) (kk6.trans (same_keep su))
    · rw [show ([V.int fr, .int hh, .int l] : List V).set (Int.toNat 1) nv = [.int fr, nv, .int l] from rfl]
      have k6 := k5 (.lst [.int fr, nv, .int l])
      have kk6 := kk5 (.lst [.int fr, nv, .int l])
      have G6 := G5 (.lst [.int fr, nv, .int l])
      have hz6 : (upd Hb z (.lst [.int fr, nv, .int l])) z = some (.lst [.int fr, nv, .int l]) := upd_same
      generalize upd Hb z (.lst [.int fr, nv, .int l]) = H6 at k6 kk6 G6 hz6 ⊢
      refine ⟨_, rfl, _, rfl, z, _, 0, _, rfl, rfl, SqL.of hz6, rfl, _, rfl, z, _, 1, _, rfl, rfl, SqL.of hz6, rfl, _, rfl, z, _, 2, _, rfl, rfl, SqL.of hz6, rfl, _, rfl, (show 5 ≤ sizeLine by decide), fun u nu => ?_⟩
      obtain ⟨su, du⟩ := dt_tup (hgn G6) nu (.cons (h1'.same kk6.hid _) (.cons (.int fr) (.cons (dn.same k6.hid _) (.cons (.int l) (.cons (h5.same kk6.hid _) .nil)))))
      exact q _ _ _ du (pic_mk okr (by omega) gf gnd gl okc' lc9) ((G6.same su).mono (by omega)) (kk6.trans (same_keep su))
    · rw [show ([V.int fr, .int hh, .int l] : List V).set (Int.toNat 2) nv = [.int fr, .int hh, nv] from rfl]
      have k6 := k5 (.lst [.int fr, .int hh, nv])
      have kk6 := kk5 (.lst [.int fr, .int hh, nv])
      have G6 := G5 (.lst [.int fr, .int hh, nv])
      have hz6 : (upd Hb z (.lst [.int fr, .int hh, nv])) z = some (.lst [.int fr, .int hh, nv]) := upd_same
      generalize upd Hb z (.lst [.int fr, .int hh, nv]) = H6 at k6 kk6 G6 hz6 ⊢
      refine ⟨_, rfl, _, rfl, z, _, 0, _, rfl, rfl, SqL.of hz6, rfl, _, rfl, z, _, 1, _, rfl, rfl, SqL.of hz6, rfl, _, rfl, z, _, 2, _, rfl, rfl, SqL.of hz6, rfl, _, rfl, (show 5 ≤ sizeLine by decide), fun u nu => ?_⟩
      obtain ⟨su, du⟩ := dt_tup (hgn G6) nu (.cons (h1'.same kk6.hid _) (.cons (.int fr) (.cons (.int hh) (.cons (dn.same k6.hid _) (.cons (h5.same kk6.hid _) .nil)))))
      exact q _ _ _ du (pic_mk okr (by omega) gf gh gnd okc' lc9) ((G6.same su).mono (by omega)) (kk6.trans (same_keep su))
  refine ⟨_, rfl, rfl, _, rfl, ite2 (fun _ => ?_) (fun _ => ?_)⟩
  · have DP : ∀ {H'}, Keep [g] H H' → DT (hid [g] H') (.ref p) (.tuple (pic5 rs fr hh l cs)) := fun k => hd0.same k.hid _
    have DR : ∀ {H'}, Keep [g] H H' → DT (hid [g] H') v1 (.list rs) := fun k => h1'.same k.hid _
    have DC : ∀ {H'}, Keep [g] H H' → DT (hid [g] H') (.ref pc) (.list cs) := fun k => h5.same k.hid _
    have lp : (pic5 rs fr hh l cs).length = 5 := rfl
    have lc1 : (cutD (pic5 rs fr hh l cs) (some 1) none).length = 4 := rfl
    have lc4 : (cutD (pic5 rs fr hh l cs) none (some 4)).length = 4 := rfl
    -- list(picture), picture[:4]
    refine ⟨_, rfl, lofT_n (hgn G4) (DP kk4) fun o1 H5 s5 d5 => ?_⟩
    have G5 := G4.same s5
    have k5 := kk4.trans (same_keep s5)
    refine ⟨_, rfl, 4, rfl, slT (hgn G5) (DP k5) fun o2 H6 s6 d6 => ?_⟩
    have G6 := G5.same s6
    have k6 := k5.trans (same_keep s6)
    have e6 := s6
    -- picture + (0,)
    refine ⟨_, rfl, (show 1 ≤ sizeLine by decide), fun z7 n7 => ?_⟩
    obtain ⟨s7, d7⟩ := dt_tup (hgn G6) n7 (ds := [.int 0]) (.cons (.int 0) .nil)
    have G7 := G6.same s7
    have k7 := k6.trans (same_keep s7)
    have e7 := e6.trans s7
    have x6 := d6.same (hidS s7) _
    generalize upd H6 z7 (.tup [.int 0]) = H7 at s7 d7 G7 k7 e7 x6 ⊢
    refine catT (hgn G7) (DP k7) d7 (by rw [lp]; decide) fun o3 H8 s8 d8 => ?_
    have G8 := G7.same s8
    have k8 := k7.trans (same_keep s8)
    -- (tuple(registers),) + picture[1:]
    refine ⟨_, rfl, tofL_n (hgn G8) (DR k8) fun o4 H9 s9 d9 => ?_⟩
    have G9 := G8.same s9
    have k9 := k8.trans (same_keep s9)
    refine ⟨(show 1 ≤ sizeLine by decide), fun z10 n10 => ?_⟩
    obtain ⟨s10, d10⟩ := dt_tup (hgn G9) n10 (ds := [.tuple rs]) (.cons d9 .nil)
    have G10 := G9.same s10
    have k10 := k9.trans (same_keep s10)
    generalize upd H9 z10 (.tup [o4]) = H10 at s10 d10 G10 k10 ⊢
    refine ⟨_, rfl, 1, rfl, ?_⟩
    refine slT_n (hgn G10) (DP k10) fun o11 H11 s11 d11 => ?_
    have G11 := G10.same s11
    have k11 := k10.trans (same_keep s11)
    refine catT (hgn G11) (d10.same (hidS s11) _) d11 (by rw [lc1]; exact (show 1 + 4 ≤ 5000 by decide)) fun o12 H12 s12 d12 => ?_
    have G12 := G11.same s12
    have k12 := k11.trans (same_keep s12)
    -- picture[:4] + (tuple(cells),)
    refine ⟨_, rfl, 4, rfl, slT (hgn G12) (DP k12) fun o13 H13 s13 d13 => ?_⟩
    have G13 := G12.same s13
    have k13 := k12.trans (same_keep s13)
    refine ⟨_, rfl, tofL_n (hgn G13) (DC k13) fun o14 H14 s14 d14 => ?_⟩
    have G14 := G13.same s14
    have k14 := k13.trans (same_keep s14)
    refine ⟨(show 1 ≤ sizeLine by decide), fun z15 n15 => ?_⟩
    obtain ⟨s15, d15⟩ := dt_tup (hgn G14) n15 (ds := [.tuple cs]) (.cons d14 .nil)
    have G15 := G14.same s15
    have k15 := k14.trans (same_keep s15)
    have t15 := s14.trans s15
    generalize upd H14 z15 (.tup [o14]) = H15 at s15 d15 G15 k15 t15 ⊢
    refine catT (hgn G15) (d13.same (hidS t15) _) d15 (by rw [lc4]; exact (show 4 + 1 ≤ 5000 by decide)) fun o16 H16 s16 d16 => ?_
    have G16 := G15.same s16
    have k16 := k15.trans (same_keep s16)
    -- the first list
    have t12 := s13.trans (t15.trans s16)
    have t8 := (s9.trans s10).trans (s11.trans (s12.trans t12))
    have t6 := s7.trans (s8.trans t8)
    refine ⟨(show 6 ≤ sizeLine by decide), fun z17 n17 => ?_⟩
    obtain ⟨s17, d17⟩ := dt_lst (hgn G16) n17 (ds := odds rs fr hh l cs) (.cons (d5.same (hidS (s6.trans t6)) _) (.cons (d6.same (hidS t6) _) (.cons (d8.same (hidS t8) _) (.cons (d12.same (hidS t12) _) (.cons d16 (.cons .non .nil))))))
    have G17 := G16.same s17
    have k17 := k16.trans (same_keep s17)
    generalize upd H16 z17 (.lst [o1, o2, o3, o12, o16, .non]) = H17 at s17 d17 G17 k17 ⊢
    -- (registers + [None],) + picture[1:]
    refine ⟨_, rfl, _, rfl, (show 1 ≤ sizeLine by decide), fun z18 n18 => ?_⟩
    obtain ⟨s18, d18⟩ := dt_lst (hgn G17) n18 (ds := [.none]) (.cons .non .nil)
    have G18 := G17.same s18
    have k18 := k17.trans (same_keep s18)
    generalize upd H17 z18 (.lst [.non]) = H18 at s18 d18 G18 k18 ⊢
    refine catL (hgn G18) (DR k18) d18 (by rw [l64]; decide) fun o19 H19 s19 d19 => ?_
    have G19 := G18.same s19
    have k19 := k18.trans (same_keep s19)
    refine ⟨(show 1 ≤ sizeLine by decide), fun z20 n20 => ?_⟩
    obtain ⟨s20, d20⟩ := dt_tup (hgn G19) n20 (ds := [.list (rs ++ [.none])]) (.cons d19 .nil)
    have G20 := G19.same s20
    have k20 := k19.trans (same_keep s20)
    generalize upd H19 z20 (.tup [o19]) = H20 at s20 d20 G20 k20 ⊢
    refine ⟨_, rfl, 1, rfl, slT_n (hgn G20) (DP k20) fun o21 H21 s21 d21 => ?_⟩
    have G21 := G20.same s21
    have k21 := k20.trans (same_keep s21)
    refine catT (hgn G21) (d20.same (hidS s21) _) d21 (by rw [lc1]; exact (show 1 + 4 ≤ 5000 by decide)) fun o22 H22 s22 d22 => ?_
    have G22 := G21.same s22
    have k22 := k21.trans (same_keep s22)
    -- (registers[1:],) + picture[1:]
    refine ⟨_, rfl, 1, rfl, slL_n (hgn G22) (DR k22) fun o23 H23 s23 d23 => ?_⟩
    have G23 := G22.same s23
    have k23 := k22.trans (same_keep s23)
    refine ⟨(show 1 ≤ sizeLine by decide), fun z24 n24 => ?_⟩
    obtain ⟨s24, d24⟩ := dt_tup (hgn G23) n24 (ds := [.list (cutD rs (some 1) none)]) (.cons d23 .nil)
    have G24 := G23.same s24
    have k24 := k23.trans (same_keep s24)
    generalize upd H23 z24 (.tup [o23]) = H24 at s24 d24 G24 k24 ⊢
    refine ⟨_, rfl, 1, rfl, slT_n (hgn G24) (DP k24) fun o25 H25 s25 d25 => ?_⟩
    have G25 := G24.same s25
    have k25 := k24.trans (same_keep s25)
    refine catT (hgn G25) (d24.same (hidS s25) _) d25 (by rw [lc1]; exact (show 1 + 4 ≤ 5000 by decide)) fun o26 H26 s26 d26 => ?_
    have G26 := G25.same s26
    have k26 := k25.trans (same_keep s26)
    have t22 := s23.trans (s24.trans (s25.trans s26))
    refine ⟨(show 2 ≤ sizeLine by decide), fun z27 n27 => ?_⟩
    obtain ⟨s27, d27⟩ := dt_lst (hgn G26) n27 (ds := odds2 rs fr hh l cs) (.cons (d22.same (hidS t22) _) (.cons d26 .nil))
    have G27 := G26.same s27
    have k27 := k26.trans (same_keep s27)
    have t27 := (s18.trans (s19.trans (s20.trans (s21.trans (s22.trans t22))))).trans s27
    generalize upd H26 z27 (.lst [o22, o26]) = H27 at s27 d27 G27 k27 t27 ⊢
    refine catL (hgn G27) (d17.same (hidS t27) _) d27 (show 6 + 2 ≤ 5000 by decide) fun o28 H28 s28 d28 => ?_
    have G28 := G27.same s28
    have k28 := k27.trans (same_keep s28)
    refine ⟨_, rfl, draw G28 h0 (by omega) (by decide) (by decide) fun r H29 r0 r1 G29 k29 => ?_⟩
    have lo8 : (odds rs fr hh l cs ++ odds2 rs fr hh l cs).length = 8 := rfl
    have hod : (odds rs fr hh l cs ++ odds2 rs fr hh l cs)[r.toNat]? = some ((odds rs fr hh l cs ++ odds2 rs fr hh l cs)[r.toNat]'(by omega)) := List.getElem?_eq_getElem _
    refine ixD (d28.same k29.hid _) r0 hod fun nv dnv => ?_
    exact q _ _ _ dnv (odds_ok okr l64 (by omega) (by omega) (by omega) okc' lc9 _ (List.mem_of_getElem? hod)) (G29.mono (by omega)) (k28.trans k29)
  refine ⟨_, rfl, Nat.zero_le _, fun le nle => ?_⟩
  have Gl := G4.new (o := .lst []) nle
  have kl := kk4.trans (keep_new (o := .lst []) nle)
  have sl := same_new (o := .lst []) nle
  have hle : (upd H4 le (.lst [])) le = some (.lst []) := upd_same
  generalize upd H4 le (.lst []) = H5 at Gl kl sl hle ⊢
  refine eqN (h5.same kl.hid _) hle ⟨_, rfl, ?_⟩
  by_cases hcs : cs = []
  · subst hcs
    exact iteT ⟨_, rfl, q _ _ _ (hd0.same kl.hid _) pB (Gl.mono (by omega)) kl⟩
  rw [show cs.isEmpty = false by cases cs with | nil => exact absurd rfl hcs | cons a b => rfl]
  refine iteF ?_
  have dn5 := dn.same (hidS sl) _
  have lpos : 0 < cs.length := List.length_pos_iff.mpr hcs
  refine ⟨_, rfl, _, rfl, draw Gl h0 (by omega) (by omega) (Nat.lt_of_lt_of_le (show ((cs.length : Nat) : Int).natAbs < 2 ^ 11 by omega) (Nat.pow_le_pow_right (by decide) (by decide))) fun at_ H6 a0 a1 G6 k6 => ?_⟩
  refine gname_norm (σ' := [some (.ref g), some (.ref p), some v1, some (.int fr), some (.int hh), some (.int l), some (.ref pc), some (.int way), some (.int ((cs.length : Nat) : Int)), some (.int (sp : Int)), some nv, none, none, some (.int at_), none, none, none, none]) rfl ?_
  obtain ⟨j, rfl⟩ : ∃ j : Nat, at_ = (j : Int) := ⟨at_.toNat, (Int.toNat_of_nonneg a0).symm⟩
  have lj : j < cs.length := by omega
  have hcj : cs[(j : Int).toNat]? = some cs[j] := List.getElem?_eq_getElem lj
  have cm : cs[j] ∈ cs := List.getElem_mem lj
  obtain ⟨mk, xs, lk, ecj, lk0, lk1, lx4, kall⟩ := cell_inv (allc _ cm)
  obtain ⟨gC, okC⟩ := okc' _ cm
  obtain ⟨gmk, _, okx⟩ := okC _ _ _ ecj
  rw [ecj] at hcj
  have kk6 := kl.trans k6
  have dnv := dn5.same k6.hid _
  refine ⟨_, rfl, _, rfl, ixD (h5.same kk6.hid _) a0 hcj fun cx dcx => ?_⟩
  obtain ⟨tx, txs, rfl, etx, dtx⟩ := dcx.tup'
  obtain ⟨y1, y2, y3, c1, c2, c3, rfl, ecc, D1, D2, D3⟩ := dtx.three rfl
  simp only [List.cons.injEq, and_true] at ecc
  obtain ⟨rfl, rfl, rfl⟩ := ecc
  cases D3
  refine ⟨tx, _, rfl, SqT.of (hid_out etx).2, rfl, _, _, rfl, _, _, rfl, _, _, rfl, rfl, ?_⟩
  clear gC okC etx dtx dcx hcj k6 Gl kl sl hle dn5 dn
  have DM : ∀ {H'}, Keep [g] H6 H' → DT (hid [g] H') y1 mk := fun k => D1.same k.hid _
  have DX : ∀ {H'}, Keep [g] H6 H' → DT (hid [g] H') y2 (.tuple xs) := fun k => D2.same k.hid _
  have DN : ∀ {H'}, Keep [g] H6 H' → DT (hid [g] H') nv nd := fun k => dnv.same k.hid _
  have st6 : Keep [g] H6 H6 := Keep.refl
  refine ⟨_, rfl, _, rfl, (show 3 ≤ sizeLine by decide), fun z7 n7 => ?_⟩
  obtain ⟨s7, d7⟩ := dt_tup (hgn G6) n7 (ds := [.none, .tuple xs, .int lk]) (.cons .non (.cons (DX Keep.refl) (.cons (.int lk) .nil)))
  have st7 : Keep [g] H6 _ := same_keep s7
  have G7 := G6.same s7
  generalize upd H6 z7 (.tup [.non, y2, .int lk]) = H7 at s7 d7 st7 G7 ⊢
  clear s7
  refine ⟨_, rfl, _, rfl, _, rfl, (show 3 ≤ sizeLine by decide), fun z8 n8 => ?_⟩
  obtain ⟨s8, d8⟩ := dt_tup (hgn G7) n8 (ds := [mk, .tuple xs, nd]) (.cons (DM (st7)) (.cons (DX (st7)) (.cons (DN (st7)) .nil)))
  have st8 : Keep [g] H7 _ := same_keep s8
  have G8 := G7.same s8
  generalize upd H7 z8 (.tup [y1, y2, nv]) = H8 at s8 d8 st8 G8 ⊢
  clear s8
  refine ⟨_, rfl, _, rfl, _, rfl, _, rfl, g, s0, t0, _, _, rfl, m0, m9, G8, h0, by omega, fun wv wd H9 dw ow G9 st9 => ?_⟩
  refine ⟨(show 1 ≤ sizeLine by decide), fun z10 n10 => ?_⟩
  obtain ⟨s10, d10⟩ := dt_tup (hgn G9) n10 (ds := [wd]) (.cons dw .nil)
  have st10 : Keep [g] H9 _ := same_keep s10
  have G10 := G9.same s10
  generalize upd H9 z10 (.tup [wv]) = H10 at s10 d10 st10 G10 ⊢
  clear s10
  refine catT (hgn G10) (DX (st7.trans (st8.trans (st9.trans (st10))))) d10 (show xs.length + 1 ≤ 5000 by omega) fun o11 H11 s11 d11 => ?_
  have st11 : Keep [g] H10 H11 := same_keep s11
  have G11 := G10.same s11
  clear s11
  refine ⟨_, rfl, (show 3 ≤ sizeLine by decide), fun z12 n12 => ?_⟩
  obtain ⟨s12, d12⟩ := dt_tup (hgn G11) n12 (ds := [mk, .tuple (xs ++ [wd]), .int lk]) (.cons (DM (st7.trans (st8.trans (st9.trans (st10.trans (st11)))))) (.cons d11 (.cons (.int lk) .nil)))
  have st12 : Keep [g] H11 _ := same_keep s12
  have G12 := G11.same s12
  generalize upd H11 z12 (.tup [y1, o11, .int lk]) = H12 at s12 d12 st12 G12 ⊢
  clear s12
  refine ⟨_, rfl, _, rfl, 1, rfl, slT_n (hgn G12) (DX (st7.trans (st8.trans (st9.trans (st10.trans (st11.trans (st12))))))) fun o13 H13 s13 d13 => ?_⟩
  have st13 : Keep [g] H12 H13 := same_keep s13
  have G13 := G12.same s13
  clear s13
  rw [cutD_d1] at d13
  refine ⟨_, rfl, (show 3 ≤ sizeLine by decide), fun z14 n14 => ?_⟩
  obtain ⟨s14, d14⟩ := dt_tup (hgn G13) n14 (ds := [mk, .tuple (xs.drop 1), .int lk]) (.cons (DM (st7.trans (st8.trans (st9.trans (st10.trans (st11.trans (st12.trans (st13)))))))) (.cons d13 (.cons (.int lk) .nil)))
  have st14 : Keep [g] H13 _ := same_keep s14
  have G14 := G13.same s14
  generalize upd H13 z14 (.tup [y1, o13, .int lk]) = H14 at s14 d14 st14 G14 ⊢
  clear s14
  refine ⟨(show 4 ≤ sizeLine by decide), fun z15 n15 => ?_⟩
  obtain ⟨s15, d15⟩ := dt_lst (hgn G14) n15 (ds := ch1 mk xs lk nd wd) (.cons (d7.same (Keep.hid (st8.trans (st9.trans (st10.trans (st11.trans (st12.trans (st13.trans (st14)))))))) _) (.cons (d8.same (Keep.hid (st9.trans (st10.trans (st11.trans (st12.trans (st13.trans (st14))))))) _) (.cons (d12.same (Keep.hid (st13.trans (st14))) _) (.cons d14 .nil))))
  have st15 : Keep [g] H14 _ := same_keep s15
  have G15 := G14.same s15
  generalize upd H14 z15 (.lst [.ref z7, .ref z8, .ref z12, .ref z14]) = H15 at s15 d15 st15 G15 ⊢
  clear s15
  refine ⟨_, rfl, _, rfl, _, rfl, (show 3 ≤ sizeLine by decide), fun z16 n16 => ?_⟩
  obtain ⟨s16, d16⟩ := dt_tup (hgn G15) n16 (ds := [mk, .tuple xs, .int 0]) (.cons (DM (st7.trans (st8.trans (st9.trans (st10.trans (st11.trans (st12.trans (st13.trans (st14.trans (st15)))))))))) (.cons (DX (st7.trans (st8.trans (st9.trans (st10.trans (st11.trans (st12.trans (st13.trans (st14.trans (st15)))))))))) (.cons (.int 0) .nil)))
  have st16 : Keep [g] H15 _ := same_keep s16
  have G16 := G15.same s16
  generalize upd H15 z16 (.tup [y1, y2, .int 0]) = H16 at s16 d16 st16 G16 ⊢
  clear s16
  refine ⟨_, rfl, _, rfl, _, rfl, _, rfl, draw G16 h0 (by omega) (by omega) (Nat.lt_of_lt_of_le (show ((cs.length : Nat) : Int).natAbs < 2 ^ 11 by omega) (Nat.pow_le_pow_right (by decide) (by decide))) fun kx H17 kx0 kx1 G17 st17 => ?_⟩
  refine ⟨_, _, rfl, rfl, (show 2 ≤ sizeLine by decide), fun z18 n18 => ?_⟩
  obtain ⟨s18, d18⟩ := dt_tup (hgn G17) n18 (ds := [.str "cell", .int (1 + kx)]) (.cons (.str "cell") (.cons (.int (1 + kx)) .nil))
  have st18 : Keep [g] H17 _ := same_keep s18
  have G18 := G17.same s18
  generalize upd H17 z18 (.tup [.str "cell", .int (1 + kx)]) = H18 at s18 d18 st18 G18 ⊢
  clear s18
  refine ⟨(show 1 ≤ sizeLine by decide), fun z19 n19 => ?_⟩
  obtain ⟨s19, d19⟩ := dt_tup (hgn G18) n19 (ds := [.tuple [.str "cell", .int (1 + kx)]]) (.cons d18 .nil)
  have st19 : Keep [g] H18 _ := same_keep s19
  have G19 := G18.same s19
  generalize upd H18 z19 (.tup [.ref z18]) = H19 at s19 d19 st19 G19 ⊢
  clear s19
  refine catT (hgn G19) (DX (st7.trans (st8.trans (st9.trans (st10.trans (st11.trans (st12.trans (st13.trans (st14.trans (st15.trans (st16.trans (st17.trans (st18.trans (st19)))))))))))))) d19 (show xs.length + 1 ≤ 5000 by omega) fun o20 H20 s20 d20 => ?_
  have st20 : Keep [g] H19 H20 := same_keep s20
  have G20 := G19.same s20
  clear s20
  refine ⟨_, rfl, (show 3 ≤ sizeLine by decide), fun z21 n21 => ?_⟩
  obtain ⟨s21, d21⟩ := dt_tup (hgn G20) n21 (ds := [mk, .tuple (xs ++ [.tuple [.str "cell", .int (1 + kx)]]), .int lk]) (.cons (DM (st7.trans (st8.trans (st9.trans (st10.trans (st11.trans (st12.trans (st13.trans (st14.trans (st15.trans (st16.trans (st17.trans (st18.trans (st19.trans (st20))))))))))))))) (.cons d20 (.cons (.int lk) .nil)))
  have st21 : Keep [g] H20 _ := same_keep s21
  have G21 := G20.same s21
  generalize upd H20 z21 (.tup [y1, o20, .int lk]) = H21 at s21 d21 st21 G21 ⊢
  clear s21
  refine ⟨(show 2 ≤ sizeLine by decide), fun z22 n22 => ?_⟩
  obtain ⟨s22, d22⟩ := dt_lst (hgn G21) n22 (ds := ch2 mk xs lk (1 + kx)) (.cons (d16.same (Keep.hid (st17.trans (st18.trans (st19.trans (st20.trans (st21)))))) _) (.cons d21 .nil))
  have st22 : Keep [g] H21 _ := same_keep s22
  have G22 := G21.same s22
  generalize upd H21 z22 (.lst [.ref z16, .ref z21]) = H22 at s22 d22 st22 G22 ⊢
  clear s22
  refine catL (hgn G22) (d15.same (Keep.hid (st16.trans (st17.trans (st18.trans (st19.trans (st20.trans (st21.trans (st22)))))))) _) d22 (show 4 + 2 ≤ 5000 by decide) fun o23 H23 s23 d23 => ?_
  have st23 : Keep [g] H22 H23 := same_keep s23
  have G23 := G22.same s23
  clear s23
  refine ⟨_, rfl, _, rfl, _, rfl, _, rfl, (show 3 ≤ sizeLine by decide), fun z24 n24 => ?_⟩
  obtain ⟨s24, d24⟩ := dt_lst (hgn G23) n24 (ds := [mk, .tuple xs, .int lk]) (.cons (DM (st7.trans (st8.trans (st9.trans (st10.trans (st11.trans (st12.trans (st13.trans (st14.trans (st15.trans (st16.trans (st17.trans (st18.trans (st19.trans (st20.trans (st21.trans (st22.trans (st23)))))))))))))))))) (.cons (DX (st7.trans (st8.trans (st9.trans (st10.trans (st11.trans (st12.trans (st13.trans (st14.trans (st15.trans (st16.trans (st17.trans (st18.trans (st19.trans (st20.trans (st21.trans (st22.trans (st23)))))))))))))))))) (.cons (.int lk) .nil)))
  have st24 : Keep [g] H23 _ := same_keep s24
  have G24 := G23.same s24
  generalize upd H23 z24 (.lst [y1, y2, .int lk]) = H24 at s24 d24 st24 G24 ⊢
  clear s24
  refine ⟨_, rfl, _, rfl, (show 2 ≤ sizeLine by decide), fun z25 n25 => ?_⟩
  obtain ⟨s25, d25⟩ := dt_tup (hgn G24) n25 (ds := [mk, .tuple xs]) (.cons (DM (st7.trans (st8.trans (st9.trans (st10.trans (st11.trans (st12.trans (st13.trans (st14.trans (st15.trans (st16.trans (st17.trans (st18.trans (st19.trans (st20.trans (st21.trans (st22.trans (st23.trans (st24))))))))))))))))))) (.cons (DX (st7.trans (st8.trans (st9.trans (st10.trans (st11.trans (st12.trans (st13.trans (st14.trans (st15.trans (st16.trans (st17.trans (st18.trans (st19.trans (st20.trans (st21.trans (st22.trans (st23.trans (st24))))))))))))))))))) .nil))
  have st25 : Keep [g] H24 _ := same_keep s25
  have G25 := G24.same s25
  generalize upd H24 z25 (.tup [y1, y2]) = H25 at s25 d25 st25 G25 ⊢
  clear s25
  refine ⟨_, rfl, _, rfl, lofT_n (hgn G25) (DX (st7.trans (st8.trans (st9.trans (st10.trans (st11.trans (st12.trans (st13.trans (st14.trans (st15.trans (st16.trans (st17.trans (st18.trans (st19.trans (st20.trans (st21.trans (st22.trans (st23.trans (st24.trans (st25)))))))))))))))))))) fun o26 H26 s26 d26 => ?_⟩
  have st26 : Keep [g] H25 H26 := same_keep s26
  have G26 := G25.same s26
  clear s26
  refine ⟨_, rfl, (show 3 ≤ sizeLine by decide), fun z27 n27 => ?_⟩
  obtain ⟨s27, d27⟩ := dt_tup (hgn G26) n27 (ds := [mk, .list xs, .int lk]) (.cons (DM (st7.trans (st8.trans (st9.trans (st10.trans (st11.trans (st12.trans (st13.trans (st14.trans (st15.trans (st16.trans (st17.trans (st18.trans (st19.trans (st20.trans (st21.trans (st22.trans (st23.trans (st24.trans (st25.trans (st26))))))))))))))))))))) (.cons d26 (.cons (.int lk) .nil)))
  have st27 : Keep [g] H26 _ := same_keep s27
  have G27 := G26.same s27
  generalize upd H26 z27 (.tup [y1, o26, .int lk]) = H27 at s27 d27 st27 G27 ⊢
  clear s27
  refine ⟨_, rfl, (show 1 ≤ sizeLine by decide), fun z28 n28 => ?_⟩
  obtain ⟨s28, d28⟩ := dt_tup (hgn G27) n28 (ds := [.int 1]) (.cons (.int 1) .nil)
  have st28 : Keep [g] H27 _ := same_keep s28
  have G28 := G27.same s28
  generalize upd H27 z28 (.tup [.int 1]) = H28 at s28 d28 st28 G28 ⊢
  clear s28
  refine rep5_n (hgn G28) d28 fun o29 H29 s29 d29 => ?_
  have st29 : Keep [g] H28 H29 := same_keep s29
  have G29 := G28.same s29
  clear s29
  refine ⟨_, rfl, (show 3 ≤ sizeLine by decide), fun z30 n30 => ?_⟩
  obtain ⟨s30, d30⟩ := dt_tup (hgn G29) n30 (ds := [mk, .tuple [.int 1, .int 1, .int 1, .int 1, .int 1], .int lk]) (.cons (DM (st7.trans (st8.trans (st9.trans (st10.trans (st11.trans (st12.trans (st13.trans (st14.trans (st15.trans (st16.trans (st17.trans (st18.trans (st19.trans (st20.trans (st21.trans (st22.trans (st23.trans (st24.trans (st25.trans (st26.trans (st27.trans (st28.trans (st29)))))))))))))))))))))))) (.cons d29 (.cons (.int lk) .nil)))
  have st30 : Keep [g] H29 _ := same_keep s30
  have G30 := G29.same s30
  generalize upd H29 z30 (.tup [y1, o29, .int lk]) = H30 at s30 d30 st30 G30 ⊢
  clear s30
  refine ⟨_, rfl, _, rfl, (show 3 ≤ sizeLine by decide), fun z31 n31 => ?_⟩
  obtain ⟨s31, d31⟩ := dt_tup (hgn G30) n31 (ds := [.str "frame", .tuple xs, .int lk]) (.cons (.str "frame") (.cons (DX (st7.trans (st8.trans (st9.trans (st10.trans (st11.trans (st12.trans (st13.trans (st14.trans (st15.trans (st16.trans (st17.trans (st18.trans (st19.trans (st20.trans (st21.trans (st22.trans (st23.trans (st24.trans (st25.trans (st26.trans (st27.trans (st28.trans (st29.trans (st30))))))))))))))))))))))))) (.cons (.int lk) .nil)))
  have st31 : Keep [g] H30 _ := same_keep s31
  have G31 := G30.same s31
  generalize upd H30 z31 (.tup [.str "frame", y2, .int lk]) = H31 at s31 d31 st31 G31 ⊢
  clear s31
  refine ⟨(show 3 ≤ sizeLine by decide), fun z32 n32 => ?_⟩
  obtain ⟨s32, d32⟩ := dt_tup (hgn G31) n32 (ds := [.str "frame", .str "f", .int 1]) (.cons (.str "frame") (.cons (.str "f") (.cons (.int 1) .nil)))
  have st32 : Keep [g] H31 _ := same_keep s32
  have G32 := G31.same s32
  generalize upd H31 z32 (.tup [.str "frame", .str "f", .int 1]) = H32 at s32 d32 st32 G32 ⊢
  clear s32
  refine ⟨_, rfl, _, rfl, (show 3 ≤ sizeLine by decide), fun z33 n33 => ?_⟩
  obtain ⟨s33, d33⟩ := dt_tup (hgn G32) n33 (ds := [.tuple [.str "frame", .str "f", .int 1], .tuple xs, .int lk]) (.cons d32 (.cons (DX (st7.trans (st8.trans (st9.trans (st10.trans (st11.trans (st12.trans (st13.trans (st14.trans (st15.trans (st16.trans (st17.trans (st18.trans (st19.trans (st20.trans (st21.trans (st22.trans (st23.trans (st24.trans (st25.trans (st26.trans (st27.trans (st28.trans (st29.trans (st30.trans (st31.trans (st32))))))))))))))))))))))))))) (.cons (.int lk) .nil)))
  have st33 : Keep [g] H32 _ := same_keep s33
  have G33 := G32.same s33
  generalize upd H32 z33 (.tup [.ref z32, y2, .int lk]) = H33 at s33 d33 st33 G33 ⊢
  clear s33
  refine ⟨(show 6 ≤ sizeLine by decide), fun z34 n34 => ?_⟩
  obtain ⟨s34, d34⟩ := dt_lst (hgn G33) n34 (ds := ch3 mk xs lk) (.cons (d24.same (Keep.hid (st25.trans (st26.trans (st27.trans (st28.trans (st29.trans (st30.trans (st31.trans (st32.trans (st33)))))))))) _) (.cons (d25.same (Keep.hid (st26.trans (st27.trans (st28.trans (st29.trans (st30.trans (st31.trans (st32.trans (st33))))))))) _) (.cons (d27.same (Keep.hid (st28.trans (st29.trans (st30.trans (st31.trans (st32.trans (st33))))))) _) (.cons (d30.same (Keep.hid (st31.trans (st32.trans (st33)))) _) (.cons (d31.same (Keep.hid (st32.trans (st33))) _) (.cons d33 .nil))))))
  have st34 : Keep [g] H33 _ := same_keep s34
  have G34 := G33.same s34
  generalize upd H33 z34 (.lst [.ref z24, .ref z25, .ref z27, .ref z30, .ref z31, .ref z33]) = H34 at s34 d34 st34 G34 ⊢
  clear s34
  refine catL (hgn G34) (d23.same (Keep.hid (st24.trans (st25.trans (st26.trans (st27.trans (st28.trans (st29.trans (st30.trans (st31.trans (st32.trans (st33.trans (st34)))))))))))) _) d34 (show 6 + 6 ≤ 5000 by decide) fun o35 H35 s35 d35 => ?_
  have st35 : Keep [g] H34 H35 := same_keep s35
  have G35 := G34.same s35
  clear s35
  have CH := ch_ok (k := 1 + kx) gmk lx4 okx (show lk.natAbs < 2 ^ 64 by omega) gnd ow (by omega)
  have lch : (ch1 mk xs lk nd wd ++ ch2 mk xs lk (1 + kx) ++ ch3 mk xs lk).length = 12 := rfl
  refine ⟨_, rfl, 4, rfl, slT (hgn G35) (hd0.same (kk6.trans (st7.trans (st8.trans (st9.trans (st10.trans (st11.trans (st12.trans (st13.trans (st14.trans (st15.trans (st16.trans (st17.trans (st18.trans (st19.trans (st20.trans (st21.trans (st22.trans (st23.trans (st24.trans (st25.trans (st26.trans (st27.trans (st28.trans (st29.trans (st30.trans (st31.trans (st32.trans (st33.trans (st34.trans (st35)))))))))))))))))))))))))))))).hid _) fun o36 H36 s36 d36 => ?_⟩
  have st36 : Keep [g] H35 H36 := same_keep s36
  have G36 := G35.same s36
  clear s36
  refine ⟨_, rfl, _, rfl, j, rfl, slL (hgn G36) (h5.same (kk6.trans (st7.trans (st8.trans (st9.trans (st10.trans (st11.trans (st12.trans (st13.trans (st14.trans (st15.trans (st16.trans (st17.trans (st18.trans (st19.trans (st20.trans (st21.trans (st22.trans (st23.trans (st24.trans (st25.trans (st26.trans (st27.trans (st28.trans (st29.trans (st30.trans (st31.trans (st32.trans (st33.trans (st34.trans (st35.trans (st36))))))))))))))))))))))))))))))).hid _) fun o37 H37 s37 d37 => ?_⟩
  have st37 : Keep [g] H36 H37 := same_keep s37
  have G37 := G36.same s37
  clear s37
  obtain ⟨al, als, eal, ealH, dals⟩ := DT.refl' (d35.same (Keep.hid (st36.trans (st37))) _)
  have lals := dals.length
  rw [lch] at lals
  subst eal
  refine ⟨_, rfl, _, rfl, _, rfl, al, als, rfl, .inl (SqL.of (hid_out ealH).2), ?_⟩
  rw [show ((als.length : Nat) : Int) = 12 by omega]
  refine draw G37 h0 (by omega) (by decide) (by decide) fun rx H38 rx0 rx1 G38 st38 => ?_
  have hch : (ch1 mk xs lk nd wd ++ ch2 mk xs lk (1 + kx) ++ ch3 mk xs lk)[rx.toNat]? = some ((ch1 mk xs lk nd wd ++ ch2 mk xs lk (1 + kx) ++ ch3 mk xs lk)[rx.toNat]'(by omega)) := List.getElem?_eq_getElem _
  have okn := CH _ (List.mem_of_getElem? hch)
  generalize (ch1 mk xs lk nd wd ++ ch2 mk xs lk (1 + kx) ++ ch3 mk xs lk)[rx.toNat]'(by omega) = nc at hch okn
  refine ixD (d35.same (Keep.hid (st36.trans (st37.trans (st38)))) _) rx0 hch fun cv2 dcv2 => ?_
  refine ⟨(show 1 ≤ sizeLine by decide), fun z39 n39 => ?_⟩
  obtain ⟨s39, d39⟩ := dt_lst (hgn G38) n39 (ds := [nc]) (.cons dcv2 .nil)
  have st39 : Keep [g] H38 _ := same_keep s39
  have G39 := G38.same s39
  generalize upd H38 z39 (.lst [cv2]) = H39 at s39 d39 st39 G39 ⊢
  clear s39
  have lt1 : (cutD cs none (some (j : Int))).length = j := by rw [cutD_to (by omega), List.length_take]; omega
  refine catL (hgn G39) (d37.same (Keep.hid (st38.trans (st39))) _) d39 (by rw [lt1]; show j + 1 ≤ 5000; omega) fun o40 H40 s40 d40 => ?_
  have st40 : Keep [g] H39 H40 := same_keep s40
  have G40 := G39.same s40
  clear s40
  refine ⟨_, rfl, _, rfl, _, _, rfl, rfl, _, rfl, slL_n (hgn G40) (h5.same (kk6.trans (st7.trans (st8.trans (st9.trans (st10.trans (st11.trans (st12.trans (st13.trans (st14.trans (st15.trans (st16.trans (st17.trans (st18.trans (st19.trans (st20.trans (st21.trans (st22.trans (st23.trans (st24.trans (st25.trans (st26.trans (st27.trans (st28.trans (st29.trans (st30.trans (st31.trans (st32.trans (st33.trans (st34.trans (st35.trans (st36.trans (st37.trans (st38.trans (st39.trans (st40))))))))))))))))))))))))))))))))))).hid _) fun o41 H41 s41 d41 => ?_⟩
  have st41 : Keep [g] H40 H41 := same_keep s41
  have G41 := G40.same s41
  clear s41
  have lt2 : (cutD cs (some ((j : Int) + 1)) none).length = cs.length - (j + 1) := by rw [show (j : Int) + 1 = ((j + 1 : Nat) : Int) by omega, cutD_from (by omega), List.length_drop]
  refine catL (hgn G41) (d40.same (Keep.hid (st41)) _) d41 (by rw [lt2, List.length_append, lt1]; show j + 1 + (cs.length - (j + 1)) ≤ 5000; omega) fun o42 H42 s42 d42 => ?_
  have st42 : Keep [g] H41 H42 := same_keep s42
  have G42 := G41.same s42
  clear s42
  refine ⟨(show 1 ≤ sizeLine by decide), fun z43 n43 => ?_⟩
  obtain ⟨s43, d43⟩ := dt_tup (hgn G42) n43 (ds := [.list (cutD cs none (some (j : Int)) ++ [nc] ++ cutD cs (some ((j : Int) + 1)) none)]) (.cons d42 .nil)
  have st43 : Keep [g] H42 _ := same_keep s43
  have G43 := G42.same s43
  generalize upd H42 z43 (.tup [o42]) = H43 at s43 d43 st43 G43 ⊢
  clear s43
  refine catT (hgn G43) (d36.same (Keep.hid (st37.trans (st38.trans (st39.trans (st40.trans (st41.trans (st42.trans (st43)))))))) _) d43 (show 4 + 1 ≤ 5000 by decide) fun ov H44 s44 d44 => ?_
  have st44 : Keep [g] H43 H44 := same_keep s44
  refine q _ (.tuple [.list rs, .int fr, .int hh, .int l, .list (cutD cs none (some (j : Int)) ++ [nc] ++ cutD cs (some ((j : Int) + 1)) none)]) _ d44 (pic_mk okr (by omega) gf gh gl ?_ ?_) ((G43.same s44).mono (by omega)) (kk6.trans (st7.trans (st8.trans (st9.trans (st10.trans (st11.trans (st12.trans (st13.trans (st14.trans (st15.trans (st16.trans (st17.trans (st18.trans (st19.trans (st20.trans (st21.trans (st22.trans (st23.trans (st24.trans (st25.trans (st26.trans (st27.trans (st28.trans (st29.trans (st30.trans (st31.trans (st32.trans (st33.trans (st34.trans (st35.trans (st36.trans (st37.trans (st38.trans (st39.trans (st40.trans (st41.trans (st42.trans (st43.trans (st44)))))))))))))))))))))))))))))))))))))))
  · intro x hx
    rcases List.mem_append.mp hx with hx | hx
    · rcases List.mem_append.mp hx with hx | hx
      · exact okc' x (mem_cutD hx)
      · rw [List.mem_singleton.mp hx]
        exact okn
    · exact okc' x (mem_cutD hx)
  · rw [List.length_append, List.length_append, lt1, lt2]
    show j + 1 + (cs.length - (j + 1)) ≤ 9
    omega
theorem c_l_bent (T : TLb K mg) : Says P w K mg base 6 "_law_bent" ["_law_generator_here", "_law_picture"] sp_l_bent := says T.d_l_bent sc_l_bent (fun vs H Q E h => by obtain ⟨_, _, _, _, _, _, rfl, _⟩ := h; rfl) (b_l_bent T)
end
end Cb
set_option Elab.async false
set_option linter.all false
set_option maxRecDepth 100000
set_option maxHeartbeats 8000000
namespace Cb
open PySem PySem.Spec PyProof.Rows L2
abbrev s_law : Stmt := topS 33
abbrev NLaw : List Str := ["_law_script", "_law_generator_here", "_law_turn", "_law_picture", "_law_more", "_law_bent_here", "_law_before"]
theorem sc_law : FnScope NLaw ["_law_script"] (defScope s_law) := ⟨rfl, rfl, rfl, by decide +kernel, rfl, by decide +kernel, by decide +kernel⟩
structure TLaw (K : PySem.W.Frag) (w : World) (mg : Str → Option Value) : Prop where
  tf : TFst K w mg
  td : TLd K w mg
  tw : TLw K mg
  tb : TLb K mg
  b_repr : mg "repr" = none
theorem r_gd {u n k : Nat} {H : Hp} {Q : VK} {v : V} {d : PyData} (h : DT H v d) (g : Gd n k d) (hn : n ≤ 300000) (hk : k ≤ 100) (hu : u + 200 < cLine) (q : Q (.str (PyData.shown d)) H) : rRepD u [v] H Q := by
  unfold rRepD
  exact ⟨v, d, rfl, h, g.shw, by have := g.dep; omega, g.len hn, q⟩
def pic0 : PyData := .tuple [.list (List.replicate 64 .none), .int 0, .int 0, .int 0, .list []]
def pic2 : PyData := .tuple [.list (List.replicate 64 .none), .int 0, .int 0, .int 0, .list [.tuple [.str "x", .tuple [.tuple [.str "cell", .int 2]], .int 0], .tuple [.str "x", .tuple [.tuple [.str "cell", .int 1]], .int 0]]]
theorem pic0_ok : tpic pic0 ∧ forestB pic0 = true := by
  refine ⟨?_, ?_⟩
  · intro r a b c k e
    unfold pic0 at e
    simp only [PyData.tuple.injEq, List.cons.injEq, and_true] at e
    obtain ⟨rfl, rfl, rfl, rfl, rfl⟩ := e
    refine ⟨fun rs e => ?_, fun cs e => ?_⟩
    · obtain rfl : List.replicate 64 PyData.none = rs := by simpa using e
      exact ⟨by decide, fun x hx => by rw [List.eq_of_mem_replicate hx]; exact fun a x e => by cases e⟩
    · obtain rfl : ([] : List PyData) = cs := by simpa using e
      exact ⟨by decide, fun x hx => by cases hx⟩
  · unfold forestB
    rw [show formP pic0 = true by decide +kernel, Bool.true_and]
    exact @decide_eq_true _ (Classical.propDecidable _) ⟨0, [], rfl, List.nodup_nil, rfl⟩
theorem pic2_ok : tpic pic2 ∧ forestB pic2 = false := by
  refine ⟨?_, ?_⟩
  · intro r a b c k e
    unfold pic2 at e
    simp only [PyData.tuple.injEq, List.cons.injEq, and_true] at e
    obtain ⟨rfl, rfl, rfl, rfl, rfl⟩ := e
    refine ⟨fun rs e => ?_, fun cs e => ?_⟩
    · obtain rfl : List.replicate 64 PyData.none = rs := by simpa using e
      exact ⟨by decide, fun x hx => by rw [List.eq_of_mem_replicate hx]; exact fun a x e => by cases e⟩
    · simp only [PyData.list.injEq] at e
      subst e
      have gx : Gd 200 3 (.str "x") := gd_str (by decide) (by decide)
      have g0 : Gd 200 3 (.int 0) := gd_int (by decide) (by decide)
      have oc : ∀ i : Int, i.natAbs < 2 ^ 64 → okc (.tuple [.str "cell", .int i]) := fun i h => okc_pair' (by decide) (by decide) (gd_int h (by decide)) (by decide)
      exact ⟨by decide, fa (okcell_t (okcell_mk gx (by decide) (fa (oc 2 (by decide)) fn) g0)) (fa (okcell_t (okcell_mk gx (by decide) (fa (oc 1 (by decide)) fn) g0)) fn)⟩
  · unfold forestB
    rw [show formP pic2 = true by decide +kernel, Bool.true_and]
    refine @decide_eq_false _ (Classical.propDecidable _) fun gw => ?_
    have := (good_end (nx := nextD pic2) (W0 := startD pic2) (k := 0) (n := (cellsD pic2).length) (F := []) rfl List.nodup_nil).mp gw
    exact absurd this (by decide)
section
variable {P : Program} {w : World} {K : PySem.W.Frag} {mg : Str → Option Value} {base : Heap}
def sp_law (K : PySem.W.Frag) : Sp := fun vs H Q _ => ∃ (p : Addr) (ns : List Int), vs = [.ref p] ∧ SqL K H p (ns.map V.int) ∧ ∀ H', Q (.bl true) H'
theorem c_law (T : TLaw K w mg) {fl : Addr} {fdl : FuncData} (F : Fun K "law" "law" s_law fl fdl) : FnG P w K mg base CX0 12 fl fdl ["_law_script"] (sp_law K) := by
  refine fnG F sc_law (fun vs H Q E h => ?_) (fun f cdv A outer st H vs Q E ga hr h => ?_)
  · obtain ⟨_, _, rfl, _⟩ := h; rfl
  refine ⟨_, (pss_cons (ps_set (i := 1) sc_law.nd rfl (.inl rfl) (pe_s (c_l_generator T.tw.tg) hr (pa_cons (pv 0) (pa_cons pe_int pa_nil))))
    (pss_cons (ps_for PassesOwn.never rfl (pi_range1 (by rfl) T.tw.tg.b_range (pa_cons pe_int pa_nil)) (pg_name (i := 2) sc_law.nd rfl (.inl rfl))
        (pss_cons (ps_set (i := 3) sc_law.nd rfl (.inl rfl) (pe_s (c_l_drawn T.tw) hr (pa_cons (pv 1) pa_nil)))
        (pss_cons (ps_if (PW.pt (pw_or (pt_cmpR op_notBl (pe_s (c_l_due T.td) hr (pa_cons (pv 3) pa_nil)) pe_bl (nomark _)) (pw_or (pt_cmpR op_notBl (pe_s (c_is_forest T.tf) hr (pa_cons (pv 3) pa_nil)) pe_bl (nomark _)) (pw_or1 (pt_cmpR op_notBl (pe_k0 (k_is_forest T.tf) hr (pk_cons (pv 3) pk_nil)) pe_bl (nomark _))))))
            (pss_one (ps_ret pe_bl))
            pss_nil)
        (pss_one (ps_for PassesOwn.never rfl (pi_range1 (by rfl) T.tw.tg.b_range (pa_cons pe_int pa_nil)) (pg_name (i := 4) sc_law.nd rfl (.inl rfl))
            (pss_cons (ps_set (i := 5) sc_law.nd rfl (.inl rfl) (pe_s (c_l_bent T.tb) hr (pa_cons (pv 1) (pa_cons (pv 3) pa_nil))))
            (pss_cons (ps_if (PW.pt (pw_and (pt_cmpR op_eq (pe_s (c_l_random T.tw.tg) hr (pa_cons (pv 1) (pa_cons pe_int pa_nil))) pe_int (nomark _)) (pw_and1 (pt_val (pe_s (c_l_has_form T.td.tl) hr (pa_cons (pv 5) pa_nil))))))
                (pss_one (ps_set (i := 5) sc_law.nd rfl (.inl rfl) (pe_s (c_l_bent T.tb) hr (pa_cons (pv 1) (pa_cons (pv 5) pa_nil)))))
                pss_nil)
            (pss_cons (ps_set (i := 6) sc_law.nd rfl (.inl rfl) (pe_callB (call_repD ga) (by rfl) T.b_repr (by decide +kernel) (pa_cons (pv 5) pa_nil)))
            (pss_one (ps_if (PW.pt (pw_or (pt_cmpR op_ne (pe_callB (call_repD ga) (by rfl) T.b_repr (by decide +kernel) (pa_cons (pe_s (c_is_forest T.tf) hr (pa_cons (pv 5) pa_nil)) pa_nil)) (pe_callB (call_repD ga) (by rfl) T.b_repr (by decide +kernel) (pa_cons (pe_s (c_l_due T.td) hr (pa_cons (pv 5) pa_nil)) pa_nil)) (nomark _)) (pw_or1 (pt_cmpR op_ne (pe_callB (call_repD ga) (by rfl) T.b_repr (by decide +kernel) (pa_cons (pv 5) pa_nil)) (pv 6) (nomark _)))))
                (pss_one (ps_ret pe_bl))
                pss_nil))))))))))
    (pss_one (ps_ret (pe_and (pe_cmpR op_isBl (pe_s (c_is_forest T.tf) hr (pa_cons (pe_tup (pa_cons (pe_op op_rep (pe_lst (pa_cons pe_non pa_nil)) pe_int) (pa_cons pe_int (pa_cons pe_int (pa_cons pe_int (pa_cons (pe_lst pa_nil) pa_nil)))))) pa_nil)) pe_bl (nomark _)) (pe_one (pe_cmpR op_isBl (pe_s (c_is_forest T.tf) hr (pa_cons (pe_tup (pa_cons (pe_op op_rep (pe_lst (pa_cons pe_non pa_nil)) pe_int) (pa_cons pe_int (pa_cons pe_int (pa_cons pe_int (pa_cons (pe_lst (pa_cons (pe_tup (pa_cons pe_str (pa_cons (pe_tup (pa_cons (pe_tup (pa_cons pe_str (pa_cons pe_int pa_nil))) pa_nil)) (pa_cons pe_int pa_nil)))) (pa_cons (pe_tup (pa_cons pe_str (pa_cons (pe_tup (pa_cons (pe_tup (pa_cons pe_str (pa_cons pe_int pa_nil))) pa_nil)) (pa_cons pe_int pa_nil)))) pa_nil))) pa_nil)))))) pa_nil)) pe_bl (nomark _)))))))), ?_⟩
  obtain ⟨p, ns, rfl, hp, q⟩ := h
  have hu' : (A.deeper (envOfC "law" (defScope s_law) st.heap.objs.size f cdv)).units + 200 < cLine := by
    have := hr.un
    omega
  refine ⟨_, rfl, p, ns, 0, rfl, hp, by decide, by decide, fun g a0 sd H1 ng s1 hg => ?_⟩
  have G1 : Gn g sd 0 0 H1 := ⟨a0, _, hg, by decide, by decide⟩
  refine ⟨3, rfl, by decide, by decide, for_range (n := 3) (fun i σ H' => (∃ x2 x3 x4 x5 x6 : Option V, σ = [some (.ref p), some (.ref g), x2, x3, x4, x5, x6]) ∧ Gn g sd 0 (20000 * i) H') ⟨⟨_, _, _, _, _, rfl⟩, G1⟩ ?_ ?_⟩
  · rintro i σ H2 hi ⟨⟨x2, x3, x4, x5, x6, rfl⟩, G2⟩
    refine ⟨_, rfl, g, sd, 0, _, rfl, G2, by decide, by omega, fun v d H3 dv pB pF pT G3 k3 => ?_⟩
    have tp := pB.2.1
    refine ⟨_, rfl, v, d, rfl, dv.same hid_same _, tp, fun H4 s4 => ?_⟩
    rw [pT]
    refine ⟨_, _, rfl, rfl, _, rfl, iteF ?_⟩
    have dv4 := dv.same (hidS s4) _
    refine ⟨_, rfl, v, d, rfl, dv4.same hid_same _, tp, fun H5 s5 => ?_⟩
    rw [pT]
    refine ⟨_, _, rfl, rfl, _, rfl, iteF ?_⟩
    have dv5 := dv4.same (hidS s5) _
    refine ⟨_, rfl, v, d, rfl, dv5.same hid_same _, tp, fun H6 s6 => ?_⟩
    rw [pT]
    refine ⟨_, _, rfl, rfl, _, rfl, iteF ?_⟩
    have dv6 := dv5.same (hidS s6) _
    have G6 := ((G3.same s4).same s5).same s6
    refine ⟨12, rfl, by decide, by decide, for_range (n := 12) (fun j σ H' => (∃ x4 x5 x6 : Option V, σ = [some (.ref p), some (.ref g), some (.int (0 + (i : Nat))), some v, x4, x5, x6]) ∧ Gn g sd 0 (20000 * i + 2000 + 500 * j) H' ∧ DT (hid [g] H') v d) ⟨⟨_, _, _, rfl⟩, G6, dv6⟩ ?_ ?_⟩
    · rintro j σ H7 hj ⟨⟨x4, x5, x6, rfl⟩, G7, dv7⟩
      refine ⟨_, rfl, _, rfl, g, sd, 0, _, v, d, rfl, G7, by decide, by omega, dv7, pB, pF, fun v1 d1 H8 dv1 pB1 G8 k8 => ?_⟩
      have dv8 := dv7.same k8.hid _
      refine ⟨_, rfl, draw G8 (by decide) (by omega) (by decide) (by decide) fun r H9 r0 r1 G9 k9 => ⟨rfl, _, rfl, ?_⟩⟩
      have dv9 := dv8.same k9.hid _
      have dw9 := dv1.same k9.hid _
      refine ite2 (fun _ => ?_) (fun _ => ?_)
      · refine ⟨_, rfl, v1, d1, rfl, dw9.same hid_same _, pB1.2.1, fun H10 s10 => ⟨_, rfl, ?_⟩⟩
        have dv10 := dv9.same (hidS s10) _
        have dw10 := dw9.same (hidS s10) _
        have G10 := G9.same s10
        refine ite2 (fun hf => ?_) (fun _ => ?_)
        · refine ⟨_, rfl, _, rfl, g, sd, 0, _, v1, d1, rfl, G10, by decide, by omega, dw10, pB1, hf, fun v2 d2 H11 dv2 pB2 G11 k11 => ?_⟩
          have dv11 := dv10.same k11.hid _
          refine ⟨_, rfl, r_gd (dv2.same hid_same _) pB2.1 (by decide) (by decide) hu' ?_⟩
          refine ⟨_, rfl, v2, d2, rfl, dv2.same hid_same _, pB2.2.1, fun Ha sa => ?_⟩
          have dwa := dv2.same (hidS sa) _
          refine r_gd (.bl _) (gd_bool (n := 0) (k := 0) _) (by decide) (by decide) hu' ?_
          refine ⟨_, rfl, v2, d2, rfl, dwa.same hid_same _, pB2.2.1, fun Hb sb => ?_⟩
          have dwb := dwa.same (hidS sb) _
          refine r_gd (.bl _) (gd_bool (n := 0) (k := 0) _) (by decide) (by decide) hu' ?_
          refine ⟨rfl, _, rfl, neN ?_⟩
          refine ⟨_, rfl, r_gd (dwb.same hid_same _) pB2.1 (by decide) (by decide) hu' ?_⟩
          refine ⟨_, rfl, rfl, _, rfl, neN ?_⟩
          exact ⟨⟨_, _, _, rfl⟩, ((G11.same sa).same sb).mono (by omega), (dv11.same (hidS sa) _).same (hidS sb) _⟩
        · refine ⟨_, rfl, r_gd (dw10.same hid_same _) pB1.1 (by decide) (by decide) hu' ?_⟩
          refine ⟨_, rfl, v1, d1, rfl, dw10.same hid_same _, pB1.2.1, fun Ha sa => ?_⟩
          have dwa := dw10.same (hidS sa) _
          refine r_gd (.bl _) (gd_bool (n := 0) (k := 0) _) (by decide) (by decide) hu' ?_
          refine ⟨_, rfl, v1, d1, rfl, dwa.same hid_same _, pB1.2.1, fun Hb sb => ?_⟩
          have dwb := dwa.same (hidS sb) _
          refine r_gd (.bl _) (gd_bool (n := 0) (k := 0) _) (by decide) (by decide) hu' ?_
          refine ⟨rfl, _, rfl, neN ?_⟩
          refine ⟨_, rfl, r_gd (dwb.same hid_same _) pB1.1 (by decide) (by decide) hu' ?_⟩
          refine ⟨_, rfl, rfl, _, rfl, neN ?_⟩
          exact ⟨⟨_, _, _, rfl⟩, ((G10.same sa).same sb).mono (by omega), (dv10.same (hidS sa) _).same (hidS sb) _⟩
      · refine ⟨_, rfl, r_gd (dw9.same hid_same _) pB1.1 (by decide) (by decide) hu' ?_⟩
        refine ⟨_, rfl, v1, d1, rfl, dw9.same hid_same _, pB1.2.1, fun Ha sa => ?_⟩
        have dwa := dw9.same (hidS sa) _
        refine r_gd (.bl _) (gd_bool (n := 0) (k := 0) _) (by decide) (by decide) hu' ?_
        refine ⟨_, rfl, v1, d1, rfl, dwa.same hid_same _, pB1.2.1, fun Hb sb => ?_⟩
        have dwb := dwa.same (hidS sb) _
        refine r_gd (.bl _) (gd_bool (n := 0) (k := 0) _) (by decide) (by decide) hu' ?_
        refine ⟨rfl, _, rfl, neN ?_⟩
        refine ⟨_, rfl, r_gd (dwb.same hid_same _) pB1.1 (by decide) (by decide) hu' ?_⟩
        refine ⟨_, rfl, rfl, _, rfl, neN ?_⟩
        exact ⟨⟨_, _, _, rfl⟩, ((G9.same sa).same sb).mono (by omega), (dv9.same (hidS sa) _).same (hidS sb) _⟩
    · rintro σ H7 ⟨⟨x4, x5, x6, rfl⟩, G7, dv7⟩
      exact ⟨⟨_, _, _, _, _, rfl⟩, G7.mono (by omega)⟩
  · rintro σ H2 ⟨⟨x2, x3, x4, x5, x6, rfl⟩, G2⟩
    have hgn : ∀ {n : Nat} {H' : Hp}, Gn g sd 0 n H' → ∃ o, H' g = some o := fun G => by
      obtain ⟨a, t, e, _⟩ := G
      exact ⟨_, e⟩
    -- the empty picture
    refine ⟨(show 1 ≤ sizeLine by decide), fun z1 n1 => ?_⟩
    have s1' := same_new (o := .lst [.non]) n1
    have hz1 : (upd H2 z1 (.lst [.non])) z1 = some (.lst [.non]) := upd_same
    have G3 := G2.same s1'
    generalize upd H2 z1 (.lst [.non]) = H3 at s1' hz1 G3 ⊢
    refine ⟨z1, 64, _, rfl, rfl, hz1, by decide, by decide, (show 1 * 64 ≤ sizeLine by decide), fun z2 n2 => ?_⟩
    rw [show (List.replicate (Int.toNat 64) [V.non]).flatten = List.replicate 64 V.non from rfl]
    obtain ⟨s2, d2⟩ := dt_lst (hgn G3) n2 (fvs_non 64).dts
    have G4 := G3.same s2
    generalize upd H3 z2 (.lst (List.replicate 64 V.non)) = H4 at s2 d2 G4 ⊢
    refine ⟨Nat.zero_le _, fun z3 n3 => ?_⟩
    obtain ⟨s3, d3⟩ := dt_lst (hgn G4) n3 (ds := []) .nil
    have G5 := G4.same s3
    generalize upd H4 z3 (.lst []) = H5 at s3 d3 G5 ⊢
    refine ⟨(show 5 ≤ sizeLine by decide), fun z4 n4 => ?_⟩
    obtain ⟨s4, d4⟩ := dt_tup (hgn G5) n4 (.cons (d2.same (hidS s3) _) (.cons (.int 0) (.cons (.int 0) (.cons (.int 0) (.cons d3 .nil)))))
    have G6 := G5.same s4
    generalize upd H5 z4 _ = H6 at s4 d4 G6 ⊢
    refine ⟨_, pic0, rfl, d4.same hid_same _, pic0_ok.1, fun H7 s7 => ?_⟩
    rw [pic0_ok.2]
    refine ⟨_, _, rfl, rfl, _, rfl, iteT ?_⟩
    have G7 := G6.same s7
    -- the ring
    refine ⟨(show 1 ≤ sizeLine by decide), fun z8 n8 => ?_⟩
    have s8 := same_new (o := .lst [.non]) n8
    have hz8 : (upd H7 z8 (.lst [.non])) z8 = some (.lst [.non]) := upd_same
    have G8 := G7.same s8
    generalize upd H7 z8 (.lst [.non]) = H8 at s8 hz8 G8 ⊢
    refine ⟨z8, 64, _, rfl, rfl, hz8, by decide, by decide, (show 1 * 64 ≤ sizeLine by decide), fun z9 n9 => ?_⟩
    rw [show (List.replicate (Int.toNat 64) [V.non]).flatten = List.replicate 64 V.non from rfl]
    obtain ⟨s9, d9⟩ := dt_lst (hgn G8) n9 (fvs_non 64).dts
    have G9 := G8.same s9
    generalize upd H8 z9 (.lst (List.replicate 64 V.non)) = H9 at s9 d9 G9 ⊢
    refine ⟨(show 2 ≤ sizeLine by decide), fun z10 n10 => ?_⟩
    obtain ⟨s10, d10⟩ := dt_tup (hgn G9) n10 (ds := [.str "cell", .int 2]) (.cons (.str _) (.cons (.int _) .nil))
    have G10 := G9.same s10
    generalize upd H9 z10 _ = H10 at s10 d10 G10 ⊢
    refine ⟨(show 1 ≤ sizeLine by decide), fun z11 n11 => ?_⟩
    obtain ⟨s11, d11⟩ := dt_tup (hgn G10) n11 (.cons d10 .nil)
    have G11 := G10.same s11
    generalize upd H10 z11 _ = H11 at s11 d11 G11 ⊢
    refine ⟨(show 3 ≤ sizeLine by decide), fun z12 n12 => ?_⟩
    obtain ⟨s12, d12⟩ := dt_tup (hgn G11) n12 (.cons (.str "x") (.cons d11 (.cons (.int 0) .nil)))
    have G12 := G11.same s12
    generalize upd H11 z12 _ = H12 at s12 d12 G12 ⊢
    refine ⟨(show 2 ≤ sizeLine by decide), fun z13 n13 => ?_⟩
    obtain ⟨s13, d13⟩ := dt_tup (hgn G12) n13 (ds := [.str "cell", .int 1]) (.cons (.str _) (.cons (.int _) .nil))
    have G13 := G12.same s13
    generalize upd H12 z13 _ = H13 at s13 d13 G13 ⊢
    refine ⟨(show 1 ≤ sizeLine by decide), fun z14 n14 => ?_⟩
    obtain ⟨s14, d14⟩ := dt_tup (hgn G13) n14 (.cons d13 .nil)
    have G14 := G13.same s14
    generalize upd H13 z14 _ = H14 at s14 d14 G14 ⊢
    refine ⟨(show 3 ≤ sizeLine by decide), fun z15 n15 => ?_⟩
    obtain ⟨s15, d15⟩ := dt_tup (hgn G14) n15 (.cons (.str "x") (.cons d14 (.cons (.int 0) .nil)))
    have G15 := G14.same s15
    generalize upd H14 z15 _ = H15 at s15 d15 G15 ⊢
    refine ⟨(show 2 ≤ sizeLine by decide), fun z16 n16 => ?_⟩
    obtain ⟨s16, d16⟩ := dt_lst (hgn G15) n16 (.cons (d12.same (hidS (s13.trans (s14.trans s15))) _) (.cons d15 .nil))
    have G16 := G15.same s16
    generalize upd H15 z16 _ = H16 at s16 d16 G16 ⊢
    refine ⟨(show 5 ≤ sizeLine by decide), fun z17 n17 => ?_⟩
    obtain ⟨s17, d17⟩ := dt_tup (hgn G16) n17 (.cons (d9.same (hidS (s10.trans (s11.trans (s12.trans (s13.trans (s14.trans (s15.trans s16))))))) _) (.cons (.int 0) (.cons (.int 0) (.cons (.int 0) (.cons d16 .nil)))))
    generalize upd H16 z17 _ = H17 at s17 d17 ⊢
    refine ⟨_, pic2, rfl, d17.same hid_same _, pic2_ok.1, fun H18 s18 => ?_⟩
    rw [pic2_ok.2]
    exact ⟨_, _, rfl, rfl, q _⟩
end
end Cb
set_option Elab.async false
set_option linter.all false
set_option maxRecDepth 100000
set_option maxHeartbeats 4000000
namespace Cb
open PySem PySem.Spec PyProof.Rows L2
/-! ### a written dict of texts -/
inductive KeysAre : List DictEntry → List Str → Prop
  | nil : KeysAre [] []
  | cons {e : DictEntry} {t : PySem.Tok} {z : Str} {es : List DictEntry} {zs : List Str} : e.key = .str z t → e.refKey = false → KeysAre es zs → KeysAre (e :: es) (z :: zs)
theorem KeysAre.none {es : List DictEntry} {zs : List Str} (k : KeysAre es zs) : es.any (·.refKey) = false := by
  induction k with
  | nil => rfl
  | cons _ h2 _ ih => rw [List.any_cons, h2, ih]; rfl
theorem KeysAre.find {es : List DictEntry} {zs : List Str} (k : KeysAre es zs) (y : Str) : (es.find? (·.key.isStr y)).isSome = decide (y ∈ zs) := by
  induction k with
  | nil => rfl
  | @cons e t z es zs h1 h2 _ ih =>
    rw [List.find?_cons]
    have e1 : e.key.isStr y = (z == y) := by rw [h1]; rfl
    rw [e1]
    cases h : z == y with
    | true =>
      have := eq_of_beq h
      subst this
      simp
    | false =>
      have ne : ¬ y = z := fun x => by
        rw [x] at h
        simp at h
      rw [ih]
      simp [ne]
theorem num_mk {K : PySem.W.Frag} {mg : Str → Option Value} {h : Heap} {x : Str} {i : Int} {t : PySem.Tok} (X : K.In h) (G : h.Ns mainGlobals mg) (e : PySem.W.nsIn K mainGlobals x = some (some (.int i t))) : ∃ t : PySem.Tok, mg x = some (.int i t) := ⟨t, PySem.W.mg_of X G e⟩
theorem res_mk {K : PySem.W.Frag} {d : Addr} {c : Value} {od : Option Addr} {es : Array DictEntry} {n : Nat} {sl : Array (Option Value)} (l : K.lookup d = some ⟨c, od, .dict es n, sl⟩) (k : KeysAre es.toList resL) : ∀ z : Str, ∃ r : Option Value, PySem.W.nsIn K d z = some r ∧ r.isSome = isRes z := by
  intro z
  have f := k.find z
  have a := k.none
  unfold PySem.W.nsIn isRes
  rw [l]
  show ∃ r, (match es.toList.find? (·.key.isStr z) with | some e => some (some e.val) | none => if es.toList.any (·.refKey) then none else some none) = some r ∧ _
  cases h : es.toList.find? (·.key.isStr z) with
  | some e =>
    rw [h] at f
    exact ⟨_, rfl, f⟩
  | none =>
    rw [h] at f
    refine ⟨none, ?_, f⟩
    show (if es.toList.any (·.refKey) then none else some none) = some none
    rw [a]
    rfl
section
variable {w : World} {K : PySem.W.Frag} {mg : Str → Option Value}
theorem mk_law (tn : TCon K w mg) (tg : TGen K mg) (p1 : Has K mg "is_cell_form" s_is_cell_form ["value", "many"]) (p2 : Has K mg "is_picture_form" s_is_picture_form ["value"]) (p3 : ∃ t, mg "MOST_PARTS" = some (.int 4 t)) (p4 : ∃ t, mg "SLOTS" = some (.int 64 t))
    (p5 : Has K mg "cells_from" s_cells_from ["contents", "links"]) (p6 : Has K mg "is_forest" s_is_forest ["picture"]) (p7 : HasK K mg "is_forest" s_is_forest ["picture"] ["picture"] (fun l => l))
    (l1 : Has K mg "_law_is_content" s_l_is_content ["_law_value", "_law_many", "_law_inner"]) (l2 : Has K mg "_law_is_cell" s_l_is_cell ["_law_value", "_law_many", "_law_low"]) (l3 : Has K mg "_law_has_form" s_l_has_form ["_law_picture"]) (l4 : Has K mg "_law_due" s_l_due ["_law_picture"])
    (l5 : Has K mg "_law_drawn" s_l_drawn ["_law_generator_here"]) (l6 : Has K mg "_law_wrong" s_l_wrong ["_law_generator_here", "_law_many"]) (l7 : Has K mg "_law_bent" s_l_bent ["_law_generator_here", "_law_picture"]) (bs : mg "sorted" = none) (br : mg "repr" = none) : TLaw K w mg :=
  ⟨⟨⟨⟨tn, p1, p2, p3, p4⟩, p5⟩, p6, p7⟩, ⟨⟨⟨tn, l1, l2⟩, l3⟩, l4, bs, tg.b_range⟩, ⟨tg, l5, tn.b_tuple⟩, ⟨⟨tg, l6⟩, l7, tn.tw.b_list, tn.b_tuple⟩, br⟩
theorem ends {l : PySem.W.OpenLaw} {fa : Addr} (hfa : mg "law" = some (.ref fa)) (T : TLaw K w mg) (dl : Has K mg "law" s_law ["_law_script"]) :
    ∃ fd : FuncData, (∀ (s : Shared) (u : Value), BindsTo s fd ⟨[u], []⟩ [("_law_script", u)]) ∧ ∀ base : Heap, K.In base → base.Ns mainGlobals mg → FnG l.prog w K mg base CX0 12 fa fd ["_law_script"] (sp_law K) := by
  obtain ⟨f, fd, F, hm, _⟩ := dl
  obtain rfl : f = fa := Value.ref.inj (Option.some.inj (hm.symm.trans hfa))
  refine ⟨fd, ?_, fun base _ _ => c_law T F⟩
  obtain ⟨oc, od, kV, doc, pm, an, cdv, ct, osl, rfl, lk, hcd⟩ := F.ex
  exact fun s u => .of_eq rfl
end
end Cb
set_option Elab.async false
set_option maxRecDepth 100000
open PySem PySem.W PyProof.Rows
set_option maxHeartbeats 0 in
theorem PySem.Challenge.cw_cellbills_k89_whole_pictures_judged_holds : PySem.Challenge.rw_cellbills_k89_whole_pictures_judged.Holds := by
  w_on; o_law; k_head; (case hw => w_witness2)
  k_fill
  refine Cb.walk_g (l := PySem.Challenge.rw_cellbills_k89_whole_pictures_judged) (n := 63) (k := 12) (x := "_law_script") (sp := fun K => Cb.sp_law K) rfl (by decide) rfl ⟨rfl, by decide, by decide⟩ (fun w h Y => PySem.W.kIn_of Y) ?F ?pr
  case pr => exact fun K H a ns _ _ hS => ⟨a, ns, rfl, hS, fun _ => rfl⟩
  case F =>
    intro w mg fa h KX G hmg
    refine' Cb.ends hmg ?T ?dl
    case dl =>
      refine' Cb.has KX G ?a ?l ?c ?k ?b
      (case a => k_is); (case l => k_is); (case c => k_is); (case k => k_is); (case b => exact fun _ _ _ _ _ _ us hl => match us, hl with | [_], _ => rfl)
    case T =>
      refine' Cb.mk_law ?tn ?tg ?p1 ?p2 ?p3 ?p4 ?p5 ?p6 ?p7 ?l1 ?l2 ?l3 ?l4 ?l5 ?l6 ?l7 ?bs ?br
      case p1 =>
        refine' Cb.has KX G ?a ?l ?c ?k ?b
        (case a => k_is); (case l => k_is); (case c => k_is); (case k => k_is); (case b => exact fun _ _ _ _ _ _ us hl => match us, hl with | [_, _], _ => rfl)
      case p2 =>
        refine' Cb.has KX G ?a ?l ?c ?k ?b
        (case a => k_is); (case l => k_is); (case c => k_is); (case k => k_is); (case b => exact fun _ _ _ _ _ _ us hl => match us, hl with | [_], _ => rfl)
      case p5 =>
        refine' Cb.has KX G ?a ?l ?c ?k ?b
        (case a => k_is); (case l => k_is); (case c => k_is); (case k => k_is); (case b => exact fun _ _ _ _ _ _ us hl => match us, hl with | [_, _], _ => rfl)
      case p6 =>
        refine' Cb.has KX G ?a ?l ?c ?k ?b
        (case a => k_is); (case l => k_is); (case c => k_is); (case k => k_is); (case b => exact fun _ _ _ _ _ _ us hl => match us, hl with | [_], _ => rfl)
      case l1 =>
        refine' Cb.has KX G ?a ?l ?c ?k ?b
        (case a => k_is); (case l => k_is); (case c => k_is); (case k => k_is); (case b => exact fun _ _ _ _ _ _ us hl => match us, hl with | [_, _, _], _ => rfl)
      case l2 =>
        refine' Cb.has KX G ?a ?l ?c ?k ?b
        (case a => k_is); (case l => k_is); (case c => k_is); (case k => k_is); (case b => exact fun _ _ _ _ _ _ us hl => match us, hl with | [_, _, _], _ => rfl)
      case l3 =>
        refine' Cb.has KX G ?a ?l ?c ?k ?b
        (case a => k_is); (case l => k_is); (case c => k_is); (case k => k_is); (case b => exact fun _ _ _ _ _ _ us hl => match us, hl with | [_], _ => rfl)
      case l4 =>
        refine' Cb.has KX G ?a ?l ?c ?k ?b
        (case a => k_is); (case l => k_is); (case c => k_is); (case k => k_is); (case b => exact fun _ _ _ _ _ _ us hl => match us, hl with | [_], _ => rfl)
      case l5 =>
        refine' Cb.has KX G ?a ?l ?c ?k ?b
        (case a => k_is); (case l => k_is); (case c => k_is); (case k => k_is); (case b => exact fun _ _ _ _ _ _ us hl => match us, hl with | [_], _ => rfl)
      case l6 =>
        refine' Cb.has KX G ?a ?l ?c ?k ?b
        (case a => k_is); (case l => k_is); (case c => k_is); (case k => k_is); (case b => exact fun _ _ _ _ _ _ us hl => match us, hl with | [_, _], _ => rfl)
      case l7 =>
        refine' Cb.has KX G ?a ?l ?c ?k ?b
        (case a => k_is); (case l => k_is); (case c => k_is); (case k => k_is); (case b => exact fun _ _ _ _ _ _ us hl => match us, hl with | [_, _], _ => rfl)
      case p3 => refine' Cb.num_mk KX G ?e; (case e => k_is)
      case p4 => refine' Cb.num_mk KX G ?e; (case e => k_is)
      case p7 =>
        refine' Cb.hasK KX G ?a ?l ?c ?k (Cb.kb1 ?kb)
        (case a => k_is); (case l => k_is); (case c => k_is); (case k => k_is); (case kb => exact fun _ => rfl)
      case bs => refine' PySem.W.mg_none_of KX G ?z; (case z => k_is)
      case br => refine' PySem.W.mg_none_of KX G ?z; (case z => k_is)
      case tg =>
        refine' ⟨?a1, ?a2, ?a3, ?a4, ?z1, ?z2, ?z3, ?z4, ?z5⟩
        case a1 =>
          refine' Cb.has KX G ?a ?l ?c ?k ?b
          (case a => k_is); (case l => k_is); (case c => k_is); (case k => k_is); (case b => exact fun _ _ _ _ _ _ us hl => match us, hl with | [_, _], _ => rfl)
        case a2 =>
          refine' Cb.has KX G ?a ?l ?c ?k ?b
          (case a => k_is); (case l => k_is); (case c => k_is); (case k => k_is); (case b => exact fun _ _ _ _ _ _ us hl => match us, hl with | [_, _], _ => rfl)
        case a3 =>
          refine' Cb.has KX G ?a ?l ?c ?k ?b
          (case a => k_is); (case l => k_is); (case c => k_is); (case k => k_is); (case b => exact fun _ _ _ _ _ _ us hl => match us, hl with | [_, _], _ => rfl)
        case a4 =>
          refine' Cb.has KX G ?a ?l ?c ?k ?b
          (case a => k_is); (case l => k_is); (case c => k_is); (case k => k_is); (case b => exact fun _ _ _ _ _ _ us hl => match us, hl with | [_, _], _ => rfl)
        case z1 => refine' PySem.W.mg_none_of KX G ?z; (case z => k_is)
        case z2 => refine' PySem.W.mg_none_of KX G ?z; (case z => k_is)
        case z3 => refine' PySem.W.mg_none_of KX G ?z; (case z => k_is)
        case z4 => refine' PySem.W.mg_none_of KX G ?z; (case z => k_is)
        case z5 => refine' PySem.W.mg_none_of KX G ?z; (case z => k_is)
      case tn =>
        refine' ⟨?tw, ?d1, ?d2, ?d3, ?d4, ?w1, ?w2, ?w3, ?g1, ?g2⟩
        case d1 =>
          refine' Cb.has KX G ?a ?l ?c ?k ?b
          (case a => k_is); (case l => k_is); (case c => k_is); (case k => k_is); (case b => exact fun _ _ _ _ _ _ us hl => match us, hl with | [_], _ => rfl)
        case d2 =>
          refine' Cb.has KX G ?a ?l ?c ?k ?b
          (case a => k_is); (case l => k_is); (case c => k_is); (case k => k_is); (case b => exact fun _ _ _ _ _ _ us hl => match us, hl with | [_], _ => rfl)
        case d3 =>
          refine' Cb.has KX G ?a ?l ?c ?k ?b
          (case a => k_is); (case l => k_is); (case c => k_is); (case k => k_is); (case b => exact fun _ _ _ _ _ _ us hl => match us, hl with | [_, _], _ => rfl)
        case d4 =>
          refine' Cb.has KX G ?a ?l ?c ?k ?b
          (case a => k_is); (case l => k_is); (case c => k_is); (case k => k_is); (case b => exact fun _ _ _ _ _ _ us hl => match us, hl with | [_, _, _], _ => rfl)
        case w1 => refine' PySem.W.mg_none_of KX G ?z; (case z => k_is)
        case w2 => refine' PySem.W.mg_none_of KX G ?z; (case z => k_is)
        case w3 => refine' PySem.W.mg_none_of KX G ?z; (case z => k_is)
        case g1 => refine' Cb.num_mk KX G ?e; (case e => k_is)
        case g2 => refine' Cb.num_mk KX G ?e; (case e => k_is)
        case tw =>
          refine' ⟨?c1, ?c2, ?c3, ?c4, ?y1, ?y2, ?y3, ?y4, ?y5, ?m1, ?rs⟩
          case c1 =>
            refine' Cb.has KX G ?a ?l ?c ?k ?b
            (case a => k_is); (case l => k_is); (case c => k_is); (case k => k_is); (case b => exact fun _ _ _ _ _ _ us hl => match us, hl with | [_], _ => rfl)
          case c2 =>
            refine' Cb.has KX G ?a ?l ?c ?k ?b
            (case a => k_is); (case l => k_is); (case c => k_is); (case k => k_is); (case b => exact fun _ _ _ _ _ _ us hl => match us, hl with | [_], _ => rfl)
          case c3 =>
            refine' Cb.has KX G ?a ?l ?c ?k ?b
            (case a => k_is); (case l => k_is); (case c => k_is); (case k => k_is); (case b => exact fun _ _ _ _ _ _ us hl => match us, hl with | [_], _ => rfl)
          case c4 =>
            refine' Cb.has KX G ?a ?l ?c ?k ?b
            (case a => k_is); (case l => k_is); (case c => k_is); (case k => k_is); (case b => exact fun _ _ _ _ _ _ us hl => match us, hl with | [_], _ => rfl)
          case y1 => refine' PySem.W.mg_none_of KX G ?z; (case z => k_is)
          case y2 => refine' PySem.W.mg_none_of KX G ?z; (case z => k_is)
          case y3 => refine' PySem.W.mg_none_of KX G ?z; (case z => k_is)
          case y4 => refine' PySem.W.mg_none_of KX G ?z; (case z => k_is)
          case y5 => refine' PySem.W.mg_none_of KX G ?z; (case z => k_is)
          case m1 => refine' Cb.num_mk KX G ?e; (case e => k_is)
          case rs =>
            refine' ⟨_, _, _, PySem.W.mg_of KX G ?z, ⟨?at_, ?lit, ?low⟩, ?s⟩
            (case z => k_is); (case at_ => k_is)
            case lit => exact ⟨⟨_, _, rfl, rfl⟩, ⟨_, _, rfl, rfl⟩, ⟨_, _, rfl, rfl⟩, ⟨_, _, rfl, rfl⟩, ⟨_, _, rfl, rfl⟩, ⟨_, _, rfl, rfl⟩, ⟨_, _, rfl, rfl⟩, ⟨_, _, rfl, rfl⟩, ⟨_, _, rfl, rfl⟩, ⟨_, _, rfl, rfl⟩, ⟨_, _, rfl, rfl⟩, ⟨_, _, rfl, rfl⟩, ⟨_, _, rfl, rfl⟩, ⟨_, _, rfl, rfl⟩, ⟨_, _, rfl, rfl⟩, ⟨_, _, rfl, rfl⟩, ⟨_, _, rfl, rfl⟩, ⟨_, _, rfl, rfl⟩, ⟨_, _, rfl, rfl⟩, ⟨_, _, rfl, rfl⟩, ⟨_, _, rfl, rfl⟩, ⟨_, _, rfl, rfl⟩, ⟨_, _, rfl, rfl⟩, ⟨_, _, rfl, rfl⟩, ⟨_, _, rfl, rfl⟩, trivial⟩
            case low => rfl
            case s =>
              refine' Cb.res_mk ?l ?k
              (case l => k_is)
              case k => exact .cons rfl rfl (.cons rfl rfl (.cons rfl rfl (.cons rfl rfl (.cons rfl rfl (.cons rfl rfl (.cons rfl rfl (.cons rfl rfl (.cons rfl rfl (.cons rfl rfl (.cons rfl rfl (.cons rfl rfl (.cons rfl rfl (.cons rfl rfl (.cons rfl rfl (.cons rfl rfl (.cons rfl rfl (.cons rfl rfl (.cons rfl rfl (.cons rfl rfl (.cons rfl rfl (.cons rfl rfl (.cons rfl rfl (.cons rfl rfl (.cons rfl rfl (.nil)))))))))))))))))))))))))
